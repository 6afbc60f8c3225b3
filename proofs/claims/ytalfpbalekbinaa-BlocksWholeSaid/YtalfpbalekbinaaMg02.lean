import Derived.Test.YtalfpbalekbinaaMg00
import Derived.Test.YtalfpbalekbinaaMg01
/-
  Lists of ints in blocks of their own; which blocks a call writes.
-/
namespace Go.Proofs.Ytalfpbalekbinaa
open Go.RowKit

/-- Block g begins with the numbers l. -/
def IntsIn (w : World) (g : Nat) (l : List Int) : Prop := ∃ rest : List Value, w.heap[g]? = some (.cells (l.map (Value.int .i64) ++ rest).toArray 3 (0, 0))

section
variable {w w' : World} {g : Nat} {l : List Int}
theorem IntsIn.lt (h : IntsIn w g l) : g < w.heap.size := by
  obtain ⟨rest, h⟩ := h
  exact lt_of_block h
theorem IntsIn.cell (h : IntsIn w g l) {i : Nat} {x : Int} (hx : l[i]? = some x) : w.cell? ⟨g, i, none⟩ = some (.int .i64 x) := by
  obtain ⟨rest, h⟩ := h
  have hl := (List.getElem?_eq_some_iff.1 hx).1
  have : (l.map (Value.int .i64) ++ rest)[i]? = some (.int .i64 x) := by
    rw [List.getElem?_append_left (by simpa using hl), List.getElem?_map, hx]
    rfl
  simp [World.cell?, h]
  simpa using this
theorem IntsIn.free (h : IntsIn w g l) (i : Nat) : w.frozen? ⟨g, i, none⟩ = false := by
  obtain ⟨rest, h⟩ := h
  simp [World.frozen?, h]
theorem IntsIn.set (h : IntsIn w g l) {i : Nat} (hi : i < l.length) (x : Int) : IntsIn (w.setCell ⟨g, i, none⟩ (.int .i64 x)) g (l.set i x) := by
  obtain ⟨rest, h⟩ := h
  refine ⟨rest, ?_⟩
  rw [heap_setCell_same w g i _ _ _ h]
  have e : ((l.map (Value.int .i64) ++ rest).toArray.setIfInBounds i (.int .i64 x)) = ((l.set i x).map (Value.int .i64) ++ rest).toArray := by
    rw [List.setIfInBounds_toArray, List.set_append_left _ _ (by simpa using hi), List.map_set]
  rw [e]
theorem IntsIn.other (h : IntsIn w g l) {b i : Nat} (hb : g ≠ b) (x : Value) : IntsIn (w.setCell ⟨b, i, none⟩ x) g l := by
  obtain ⟨rest, h⟩ := h
  exact ⟨rest, (heap_setCell_other w ⟨b, i, none⟩ g x hb).trans h⟩
theorem IntsIn.later (h : IntsIn w g l) (hb : Below w.heap.size w w') : IntsIn w' g l := by
  have hl := h.lt
  obtain ⟨rest, h⟩ := h
  exact ⟨rest, (hb.block g hl).trans h⟩
theorem IntsIn.alloc (h : IntsIn w g l) (o : Obj) : IntsIn (w.alloc o) g l := by
  have hl := h.lt
  obtain ⟨rest, h⟩ := h
  exact ⟨rest, (Below.heap_alloc w o g hl).trans h⟩
theorem IntsIn.drew (h : IntsIn w g l) : IntsIn w.drew g l := h
theorem IntsIn.drewN (h : IntsIn w g l) (k : Nat) : IntsIn (w.drewN k) g l := h
theorem IntsBlk.ins (h : IntsBlk w g l) : IntsIn w g l := ⟨[], by rw [List.append_nil]; exact h⟩
end

/-- A row of one's own as a block of ints. -/
theorem ints_in_row {w : World} {B g n c : Nat} {xs : List Int} (h : w.ownsRow B 3 1 (.slice (some ⟨g, 0, none⟩) n c) n (xs.map (Value.int .i64))) : IntsIn w g xs := by
  rcases h.2 with ⟨h, _⟩ | ⟨g', cap, cur, e, _, hh, _, _, hs, ht⟩
  · cases h
  cases e
  refine ⟨cur.toList.drop (n * 1), ?_⟩
  rw [← ht, List.take_append_drop]
  exact hh

/-- Only blocks of S are written, and new ones. -/
structure Wrote (S : Nat → Prop) (w w' : World) : Prop where
  os : w'.os = w.os
  tape : w'.tape = w.tape
  output : w'.output = w.output
  size : w.heap.size ≤ w'.heap.size
  block : ∀ k, k < w.heap.size → ¬ S k → w'.heap[k]? = w.heap[k]?

section
variable {S : Nat → Prop} {w w' w0 : World}
theorem Wrote.refl (S : Nat → Prop) (w : World) : Wrote S w w := ⟨rfl, rfl, rfl, Nat.le_refl _, fun _ _ _ => rfl⟩
theorem Wrote.trans (h : Wrote S w0 w) (k : Wrote S w w') : Wrote S w0 w' :=
  ⟨k.os.trans h.os, k.tape.trans h.tape, k.output.trans h.output, Nat.le_trans h.size k.size, fun i hi hn => (k.block i (Nat.lt_of_lt_of_le hi h.size) hn).trans (h.block i hi hn)⟩
theorem Wrote.setCell (h : Wrote S w0 w) {b i : Nat} (hb : S b) (x : Value) : Wrote S w0 (w.setCell ⟨b, i, none⟩ x) :=
  ⟨h.os, h.tape, h.output, by simpa using h.size, fun k hk hn => (heap_setCell_other w ⟨b, i, none⟩ k x (fun e => hn (by rw [e]; exact hb))).trans (h.block k hk hn)⟩
theorem Wrote.drew (h : Wrote S w0 w) : Wrote S w0 w.drew := ⟨h.os, h.tape, h.output, h.size, h.block⟩
theorem Wrote.drewN (h : Wrote S w0 w) (k : Nat) : Wrote S w0 (w.drewN k) := ⟨h.os, h.tape, h.output, h.size, h.block⟩
theorem Wrote.later (h : Wrote S w0 w) (hb : Below w.heap.size w w') : Wrote S w0 w' :=
  ⟨hb.os.trans h.os, hb.tape.trans h.tape, hb.output.trans h.output, Nat.le_trans h.size hb.size, fun k hk hn => (hb.block k (Nat.lt_of_lt_of_le hk h.size)).trans (h.block k hk hn)⟩
theorem Wrote.alloc (h : Wrote S w0 w) (o : Obj) : Wrote S w0 (w.alloc o) := h.later ((Below.refl _ _).alloc (Nat.le_refl _) o)
theorem Wrote.below {B : Nat} (h : Wrote S w w') (hB : B ≤ w.heap.size) (hS : ∀ k, S k → B ≤ k) : Below B w w' :=
  ⟨h.os, h.tape, h.output, h.size, fun k hk => h.block k (Nat.lt_of_lt_of_le hk hB) (fun hs => by have := hS k hs; omega)⟩
theorem Wrote.ints {g : Nat} {l : List Int} (h : Wrote S w w') (hi : IntsIn w g l) (hg : ¬ S g) : IntsIn w' g l := by
  have hl := hi.lt
  obtain ⟨rest, hi⟩ := hi
  exact ⟨rest, (h.block g hl hg).trans hi⟩
theorem Wrote.mono {S' : Nat → Prop} (h : Wrote S w w') (hS : ∀ k, k < w.heap.size → S k → S' k) : Wrote S' w w' :=
  ⟨h.os, h.tape, h.output, h.size, fun k hk hn => h.block k hk (fun hs => hn (hS k hk hs))⟩
end

end Go.Proofs.Ytalfpbalekbinaa

/-
  An Adj in memory.
-/
namespace Go.Proofs.Ytalfpbalekbinaa
open Go.RowKit

/-- A slice that is the whole of a block. -/
abbrev sl (g n : Nat) : Value := .slice (some ⟨g, 0, none⟩) n n

/-- Block p is an Adj over these blocks. -/
def AdjBlk (w : World) (p gd gs gh gp gt n M : Nat) : Prop := w.heap[p]? = some (.cells #[sl gd n, sl gs n, sl gh M, sl gp M, sl gt M] 104 (0, 0))

section
variable {w w' : World} {p gd gs gh gp gt n M : Nat}
theorem AdjBlk.lt (h : AdjBlk w p gd gs gh gp gt n M) : p < w.heap.size := lt_of_block h
theorem AdjBlk.later (h : AdjBlk w p gd gs gh gp gt n M) (hb : Below w.heap.size w w') : AdjBlk w' p gd gs gh gp gt n M := (hb.block p h.lt).trans h
theorem AdjBlk.other (h : AdjBlk w p gd gs gh gp gt n M) {b i : Nat} (hb : p ≠ b) (x : Value) : AdjBlk (w.setCell ⟨b, i, none⟩ x) p gd gs gh gp gt n M := (heap_setCell_other w ⟨b, i, none⟩ p x hb).trans h
theorem AdjBlk.wrote {S : Nat → Prop} (h : AdjBlk w p gd gs gh gp gt n M) (hw : Wrote S w w') (hp : ¬ S p) : AdjBlk w' p gd gs gh gp gt n M := (hw.block p h.lt hp).trans h
theorem AdjBlk.c0 (h : AdjBlk w p gd gs gh gp gt n M) : w.cell? ⟨p, 0, none⟩ = some (.slice (some ⟨gd, 0, none⟩) n n) := by unfold AdjBlk at h; simp [World.cell?, h]
theorem AdjBlk.c1 (h : AdjBlk w p gd gs gh gp gt n M) : w.cell? ⟨p, 1, none⟩ = some (.slice (some ⟨gs, 0, none⟩) n n) := by unfold AdjBlk at h; simp [World.cell?, h]
theorem AdjBlk.c2 (h : AdjBlk w p gd gs gh gp gt n M) : w.cell? ⟨p, 2, none⟩ = some (.slice (some ⟨gh, 0, none⟩) M M) := by unfold AdjBlk at h; simp [World.cell?, h]
theorem AdjBlk.c3 (h : AdjBlk w p gd gs gh gp gt n M) : w.cell? ⟨p, 3, none⟩ = some (.slice (some ⟨gp, 0, none⟩) M M) := by unfold AdjBlk at h; simp [World.cell?, h]
theorem AdjBlk.c4 (h : AdjBlk w p gd gs gh gp gt n M) : w.cell? ⟨p, 4, none⟩ = some (.slice (some ⟨gt, 0, none⟩) M M) := by unfold AdjBlk at h; simp [World.cell?, h]
end

end Go.Proofs.Ytalfpbalekbinaa

/-
  Whether a graph is valid, as the program asks it.
-/
namespace Go.Proofs.Ytalfpbalekbinaa
open Go.RowKit Go.Sort

namespace Si

/-- The first k edges are as a valid graph's; l is the one before. -/
def UpTo (n : Int) (es : List (Int × Int)) (k : Nat) (l : Int × Int) : Prop :=
  (∀ (j : Nat) (p : Int × Int), j < k → es[j]? = some p → ok n p) ∧ (∀ (j : Nat) (p q : Int × Int), j + 1 < k → es[j]? = some p → es[j + 1]? = some q → lt p q) ∧ ((k = 0 ∧ l = (0, 0)) ∨ ∃ k', k = k' + 1 ∧ es[k']? = some l)

theorem UpTo.start (n : Int) (es : List (Int × Int)) : UpTo n es 0 (0, 0) := ⟨fun j p h => by omega, fun j p q h => by omega, .inl ⟨rfl, rfl⟩⟩

theorem UpTo.step {n : Int} {es : List (Int × Int)} {k : Nat} {l p : Int × Int} (h : UpTo n es k l) (hp : es[k]? = some p) (ho : ok n p) (hl : lt l p) : UpTo n es (k + 1) p := by
  refine ⟨fun j q hj hq => ?_, fun j q r hj hq hr => ?_, .inr ⟨k, rfl, hp⟩⟩
  · by_cases hjk : j = k
    · subst hjk; rw [hp] at hq; cases hq; exact ho
    · exact h.1 j q (by omega) hq
  · by_cases hjk : j + 1 = k
    · subst hjk
      rw [hp] at hr
      cases hr
      rcases h.2.2 with ⟨h0, _⟩ | ⟨k', hk, hl'⟩
      · omega
      · obtain rfl : j = k' := by omega
        rw [hl'] at hq
        cases hq
        exact hl
    · exact h.2.1 j q r (by omega) hq hr

theorem UpTo.must {n : Int} {es : List (Int × Int)} {k : Nat} {l p : Int × Int} (h : UpTo n es k l) (hv : Val n es) (hp : es[k]? = some p) : ok n p ∧ lt l p := by
  have ho := hv.each k p hp
  refine ⟨ho, ?_⟩
  rcases h.2.2 with ⟨rfl, rfl⟩ | ⟨k', rfl, hl⟩
  · unfold ok at ho
    unfold lt
    dsimp only
    omega
  · exact hv.up k' l p hl hp

theorem UpTo.done {n : Int} {es : List (Int × Int)} {l : Int × Int} (h : UpTo n es es.length l) (h0 : 0 ≤ n) (h1 : n ≤ 1048576) (h2 : es.length ≤ 4194304) : Val n es := by
  have lim : ∀ (j : Nat) (p : Int × Int), es[j]? = some p → j < es.length := fun j p hj => by
    rcases Nat.lt_or_ge j es.length with hl | hl
    · exact hl
    · rw [List.getElem?_eq_none hl] at hj; cases hj
  exact ⟨h0, h1, h2, fun j p hj => h.1 j p (lim j p hj) hj, fun j p q hp hq => h.2.1 j p q (lim _ _ hq) hp hq⟩

end Si

theorem pair_cells {w : World} {b : Nat} {t : TypeId} {x y : Value} (h : w.heap[b]? = some (.cells #[x, y] t (0, 0))) : w.cell? ⟨b, 0, none⟩ = some x ∧ w.cell? ⟨b, 1, none⟩ = some y ∧ ∀ i, w.frozen? ⟨b, i, none⟩ = false := by
  refine ⟨by simp [World.cell?, h], by simp [World.cell?, h], fun i => by simp [World.frozen?, h]⟩

theorem pair_set {w : World} {b : Nat} {t : TypeId} {x y : Value} (h : w.heap[b]? = some (.cells #[x, y] t (0, 0))) (x' y' : Value) : ((w.setCell ⟨b, 0, none⟩ x').setCell ⟨b, 1, none⟩ y').heap[b]? = some (.cells #[x', y'] t (0, 0)) := by
  have h1 := heap_setCell_same w b 0 _ t x' h
  have h2 := heap_setCell_same _ b 1 _ t y' h1
  simpa using h2

theorem pair_set_other {w : World} {b k : Nat} (hk : k ≠ b) (x' y' : Value) : ((w.setCell ⟨b, 0, none⟩ x').setCell ⟨b, 1, none⟩ y').heap[k]? = w.heap[k]? := by
  rw [heap_setCell_other _ ⟨b, 1, none⟩ k y' hk, heap_setCell_other _ ⟨b, 0, none⟩ k x' hk]

set_option maxRecDepth 100000 in
set_option maxHeartbeats 4000000 in
theorem valid_any (n : Int) (ao : Option Addr) (cap : Nat) (es : List (Int × Int)) (w : World) (he : EdgesAt w ao es) (hl : es.length ≤ 4611686018427387904) :
    Calls Try.prog 37 #[graphVal n ao es.length cap] w fun e w' => e = .returned (.bool (Si.valid n es)) ∧ Below w.heap.size w w' := by
  have HE := Nu.hid he
  clear he
  unfold graphVal
  by_cases h1 : n < 0
  · have hv := Si.valid_no (n := n) (es := es) (fun h => by have := h.lo; omega)
    rw [hv]
    go_enter Try.func37, Try.ntmps37
    go_wp2
    go_ret
    exact ⟨rfl, (Below.refl _ _).alloc (Nat.le_refl _) _⟩
  · by_cases h2 : 1048576 < n
    · have hv := Si.valid_no (n := n) (es := es) (fun h => by have := h.hi; omega)
      rw [hv]
      go_enter Try.func37, Try.ntmps37
      go_wp2
      go_ret
      exact ⟨rfl, (Below.refl _ _).alloc (Nat.le_refl _) _⟩
    · by_cases h3 : 4194304 < (es.length : Int)
      · have hv := Si.valid_no (n := n) (es := es) (fun h => by have := h.few; omega)
        rw [hv]
        go_enter Try.func37, Try.ntmps37
        go_wp2
        go_ret
        exact ⟨rfl, (Below.refl _ _).alloc (Nat.le_refl _) _⟩
      · go_enter Try.func37, Try.ntmps37
        go_wp2
        go_loopw [23] (fun c wr => ∃ (k : Nat) (l : Int × Int), k ≤ es.length ∧ c = .int .i64 k ∧ Si.UpTo n es k l ∧ wr.heap[w.heap.size]? = some (.cells #[.int .i64 n, .slice ao es.length cap] 24 (0, 0)) ∧ wr.heap[w.heap.size + 1]? = some (.cells #[.int .i64 l.1, .int .i64 l.2] 49 (0, 0)) ∧ Below w.heap.size w wr) (fun c _ => es.length - (intOf c).toNat)
        case atStart =>
          refine ⟨0, (0, 0), Nat.zero_le _, rfl, Si.UpTo.start n es, ?_, ?_, ((Below.refl _ _).alloc (Nat.le_refl _) _).alloc (by simp) _⟩
          · rw [Below.heap_alloc _ _ _ (by simp)]
            exact heap_alloc_new w _
          · have := heap_alloc_new (w.alloc (.cells #[.int .i64 n, .slice ao es.length cap] 24)) (.cells #[.int .i64 0, .int .i64 0] 49)
            simpa using this
        case round =>
          obtain ⟨k, l, hk, rfl, hup, hgb, hlb, hb⟩ := hrel
          by_cases hlt : k < es.length
          · have hlti : (k : Int) < (es.length : Int) := by omega
            have hk0 : (0 : Int) ≤ (k : Int) := by omega
            obtain ⟨p, hp⟩ : ∃ p, es[k]? = some p := ⟨_, List.getElem?_eq_getElem hlt⟩
            obtain ⟨b, o, rfl, c0, c1⟩ := (HE.out.later hb) k p hp
            obtain ⟨g0, -, -⟩ := pair_cells hgb
            obtain ⟨l0, l1, lf⟩ := pair_cells hlb
            have hsz := lt_of_block hlb
            have hsz0 := lt_of_block hgb
            have hbl : b < wr.heap.size := block_lt_of_cell c0
            have HUP := Nu.hid hup
            have HP := Nu.hid hp
            have HGB := Nu.hid hgb
            have HLB := Nu.hid hlb
            have HB := Nu.hid hb
            clear hup hp hgb hlb hb
            by_cases q1 : p.1 < 0
            · have hv := Si.valid_no (n := n) (es := es) (fun h => by have := (HUP.out.must h HP.out).1.1; omega)
              go_wp2
              go_ret
              exact ⟨by first | rfl | exact congrArg (fun b => Ending.returned (.bool b)) hv.symm, HB.out.alloc (by omega) _⟩
            · by_cases q2 : p.1 < p.2
              · by_cases q3 : p.2 < n
                · have hca := fun W => compare_any l p W
                  unfold edgeVal at hca
                  have HCA := Nu.hid hca
                  clear hca
                  by_cases q4 : Si.lt l p
                  · have hcf := Si.cf_neg.2 q4
                    generalize Si.cf l p = r at HCA hcf
                    go_wp2_with (go_at_call 59; refine (HCA.out _).mono ?_; rintro e w' ⟨rfl, hgr⟩; refine Hid.out ?_)
                    refine Nu.hid ?_
                    obtain ⟨qn, os', rfl⟩ := hgr
                    have hb1 := grow_below (wr.alloc (.cells #[.int .i64 p.1, .int .i64 p.2] 49)) qn os'
                    have hb2 : Below wr.heap.size wr (grow ((wr.alloc (.cells #[.int .i64 p.1, .int .i64 p.2] 49)).drewN qn) os') := ((Below.refl _ _).alloc (Nat.le_refl _) _).trans (hb1.mono (by simp))
                    have hnew : (grow ((wr.alloc (.cells #[.int .i64 p.1, .int .i64 p.2] 49)).drewN qn) os').heap[wr.heap.size]? = some (.cells #[.int .i64 p.1, .int .i64 p.2] 49 (0, 0)) := (hb1.block _ (by simp)).trans (heap_alloc_new wr _)
                    generalize grow ((wr.alloc (.cells #[.int .i64 p.1, .int .i64 p.2] 49)).drewN qn) os' = w2 at hb2 hnew ⊢
                    have HLB2 := Nu.hid ((hb2.block _ hsz).trans HLB.out)
                    have HGB2 := Nu.hid ((hb2.block _ hsz0).trans HGB.out)
                    obtain ⟨m0, m1, mf⟩ := pair_cells HLB2.out
                    obtain ⟨n0, n1, -⟩ := pair_cells hnew
                    have hsz2 := hb2.size
                    have HB2 := Nu.hid (HB.out.trans (hb2.mono (by omega)))
                    clear hb1 hb2 hnew c0 c1 g0 l0 l1 lf
                    go_wp2
                    go_roundw
                    case rel => exact ⟨k + 1, p, by omega, by go_num, HUP.out.step HP.out ⟨by omega, q2, q3⟩ q4, (pair_set_other (by omega) _ _).trans HGB2.out, pair_set HLB2.out _ _, (HB2.out.setCell (by simp) _).setCell (by simp) _⟩
                    case measure => simp [intOf]; omega
                  · have hv := Si.valid_no (n := n) (es := es) (fun h => q4 (HUP.out.must h HP.out).2)
                    have hcf : ¬ (Si.cf l p < 0) := fun h => q4 (Si.cf_neg.1 h)
                    generalize Si.cf l p = r at HCA hcf
                    go_wp2_with (go_at_call 59; refine (HCA.out _).mono ?_; rintro e w' ⟨rfl, hgr⟩; refine Hid.out ?_)
                    refine Nu.hid ?_
                    obtain ⟨qn, os', rfl⟩ := hgr
                    have hb1 := grow_below (wr.alloc (.cells #[.int .i64 p.1, .int .i64 p.2] 49)) qn os'
                    generalize grow ((wr.alloc (.cells #[.int .i64 p.1, .int .i64 p.2] 49)).drewN qn) os' = w2 at hb1 ⊢
                    have HB2 := Nu.hid ((HB.out.alloc (by omega) _).trans (hb1.mono (by simp; omega)))
                    clear hb1
                    go_wp2
                    go_ret
                    exact ⟨by first | rfl | exact congrArg (fun b => Ending.returned (.bool b)) hv.symm, HB2.out⟩
                · have hv := Si.valid_no (n := n) (es := es) (fun h => by have := (HUP.out.must h HP.out).1.2.2; omega)
                  go_wp2
                  go_ret
                  exact ⟨by first | rfl | exact congrArg (fun b => Ending.returned (.bool b)) hv.symm, HB.out.alloc (by omega) _⟩
              · have hv := Si.valid_no (n := n) (es := es) (fun h => by have := (HUP.out.must h HP.out).1.2.1; omega)
                go_wp2
                go_ret
                exact ⟨by first | rfl | exact congrArg (fun b => Ending.returned (.bool b)) hv.symm, HB.out.alloc (by omega) _⟩
          · obtain rfl : k = es.length := by omega
            have hv := Si.valid_iff.2 (hup.done (by omega) (by omega) (by omega))
            have HB := Nu.hid hb
            clear hb hup hgb hlb
            go_wp2
            go_ret
            exact ⟨by first | rfl | exact congrArg (fun b => Ending.returned (.bool b)) hv.symm, HB.out⟩

end Go.Proofs.Ytalfpbalekbinaa
