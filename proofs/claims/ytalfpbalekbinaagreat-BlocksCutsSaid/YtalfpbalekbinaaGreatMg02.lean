import Derived.Test.YtalfpbalekbinaaGreatMg01
import Derived.Test.YtalfpbalekbinaaGreatRows
import Derived.Test.YtalfpbalekbinaaGreatMg00
import Derived.ProofKit
import Derived.OpenShut
import Derived.SizedLaws
import Derived.Deep.DeepHandedRow
import Derived.Lib.LaidTab
import Derived.Laws.AppendOwnNone
/-
  An Adj in memory.
-/
namespace Go.Proofs.YtalfpbalekbinaaGreat
open Go.RowKit

/-- A slice that is the whole of a block. -/
abbrev sl (g n : Nat) : Value := .slice (some ⟨g, 0, none⟩) n n

/-- Block p is an Adj over these blocks. -/
def AdjBlk (w : World) (p gd gs gh gp gt n M : Nat) : Prop := w.heap[p]? = some (.cells #[sl gd n, sl gs n, sl gh M, sl gp M, sl gt M] 87 (0, 0))

section
variable {w w' : World} {p gd gs gh gp gt n M : Nat}
theorem AdjBlk.lt (h : AdjBlk w p gd gs gh gp gt n M) : p < w.heap.size := lt_of_block h
theorem AdjBlk.later (h : AdjBlk w p gd gs gh gp gt n M) (hb : Below w.heap.size w w') : AdjBlk w' p gd gs gh gp gt n M := (hb.block p h.lt).trans h
theorem AdjBlk.other (h : AdjBlk w p gd gs gh gp gt n M) {b i : Nat} (hb : p ≠ b) (x : Value) : AdjBlk (w.setCell ⟨b, i, none⟩ x) p gd gs gh gp gt n M := (heap_setCell_other w ⟨b, i, none⟩ p x hb).trans h
theorem AdjBlk.wrote {S : Nat → Prop} (h : AdjBlk w p gd gs gh gp gt n M) (hw : Wrote S w w') (hp : ¬ S p) : AdjBlk w' p gd gs gh gp gt n M := (hw.block p h.lt hp).trans h
theorem AdjBlk.c0 (h : AdjBlk w p gd gs gh gp gt n M) : w.cell? ⟨p, 0, none⟩ = some (.slice (some ⟨gd, 0, none⟩) n n) := by unfold AdjBlk at h; simp [World.cell?, h]
theorem AdjBlk.c1 (h : AdjBlk w p gd gs gh gp gt n M) : w.cell? ⟨p, 1, none⟩ = some (.slice (some ⟨gs, 0, none⟩) n n) := by unfold AdjBlk at h; simp [World.cell?, h]
theorem AdjBlk.c2 (h : AdjBlk w p gd gs gh gp gt n M) : w.cell? ⟨p, 2, none⟩ = some (.slice (some ⟨gh, 0, none⟩) M M) := by unfold AdjBlk at h; simp [World.cell?, h]
theorem AdjBlk.c3 (h : AdjBlk w p gd gs gh gp gt n M) : w.cell? ⟨p, 3, none⟩ = some (.slice (some ⟨gp, 0, none⟩) M M) := by unfold AdjBlk at h; simp [World.cell?, h]
theorem AdjBlk.c4 (h : AdjBlk w p gd gs gh gp gt n M) : w.cell? ⟨p, 4, none⟩ = some (.slice (some ⟨gt, 0, none⟩) M M) := by unfold AdjBlk at h; simp [World.cell?, h]
end

end Go.Proofs.YtalfpbalekbinaaGreat

/-
  Whether a graph is valid, as the program asks it.
-/
namespace Go.Proofs.YtalfpbalekbinaaGreat
open Go.RowKit Go.Sort

namespace Si

/-- The first k edges are as a valid graph's; l is the one before. -/
def UpTo (n : Int) (es : List (Int × Int)) (k : Nat) (l : Int × Int) : Prop :=
  (∀ (j : Nat) (p : Int × Int), j < k → es[j]? = some p → ok n p) ∧ (∀ (j : Nat) (p q : Int × Int), j + 1 < k → es[j]? = some p → es[j + 1]? = some q → lt p q) ∧ ((k = 0 ∧ l = (0, 0)) ∨ ∃ k', k = k' + 1 ∧ es[k']? = some l)

theorem UpTo.start (n : Int) (es : List (Int × Int)) : UpTo n es 0 (0, 0) := ⟨fun j p h => by omega, fun j p q h => by omega, .inl ⟨rfl, rfl⟩⟩

theorem UpTo.step {n : Int} {es : List (Int × Int)} {k : Nat} {l p : Int × Int} (h : UpTo n es k l) (hp : es[k]? = some p) (ho : ok n p) (hl : lt l p) : UpTo n es (k + 1) p := by
  refine ⟨fun j q hj hq => ?_, fun j q r hj hq hr => ?_, .inr ⟨k, rfl, hp⟩⟩
  · by_cases hjk : j = k
    · subst hjk; rw [hp] at hq; cases hq; exact ho
    · exact h.1 j q (by omega) hq
  · by_cases hjk : j + 1 = k
    · subst hjk
      rw [hp] at hr
      cases hr
      rcases h.2.2 with ⟨h0, _⟩ | ⟨k', hk, hl'⟩
      · omega
      · obtain rfl : j = k' := by omega
        rw [hl'] at hq
        cases hq
        exact hl
    · exact h.2.1 j q r (by omega) hq hr

theorem UpTo.must {n : Int} {es : List (Int × Int)} {k : Nat} {l p : Int × Int} (h : UpTo n es k l) (hv : Val n es) (hp : es[k]? = some p) : ok n p ∧ lt l p := by
  have ho := hv.each k p hp
  refine ⟨ho, ?_⟩
  rcases h.2.2 with ⟨rfl, rfl⟩ | ⟨k', rfl, hl⟩
  · unfold ok at ho
    unfold lt
    dsimp only
    omega
  · exact hv.up k' l p hl hp

theorem UpTo.done {n : Int} {es : List (Int × Int)} {l : Int × Int} (h : UpTo n es es.length l) (h0 : 0 ≤ n) (h1 : n ≤ 1048576) (h2 : es.length ≤ 4194304) : Val n es := by
  have lim : ∀ (j : Nat) (p : Int × Int), es[j]? = some p → j < es.length := fun j p hj => by
    rcases Nat.lt_or_ge j es.length with hl | hl
    · exact hl
    · rw [List.getElem?_eq_none hl] at hj; cases hj
  exact ⟨h0, h1, h2, fun j p hj => h.1 j p (lim j p hj) hj, fun j p q hp hq => h.2.1 j p q (lim _ _ hq) hp hq⟩

end Si

theorem pair_cells {w : World} {b : Nat} {t : TypeId} {x y : Value} (h : w.heap[b]? = some (.cells #[x, y] t (0, 0))) : w.cell? ⟨b, 0, none⟩ = some x ∧ w.cell? ⟨b, 1, none⟩ = some y ∧ ∀ i, w.frozen? ⟨b, i, none⟩ = false := by
  refine ⟨by simp [World.cell?, h], by simp [World.cell?, h], fun i => by simp [World.frozen?, h]⟩

theorem pair_set {w : World} {b : Nat} {t : TypeId} {x y : Value} (h : w.heap[b]? = some (.cells #[x, y] t (0, 0))) (x' y' : Value) : ((w.setCell ⟨b, 0, none⟩ x').setCell ⟨b, 1, none⟩ y').heap[b]? = some (.cells #[x', y'] t (0, 0)) := by
  have h1 := heap_setCell_same w b 0 _ t x' h
  have h2 := heap_setCell_same _ b 1 _ t y' h1
  simpa using h2

theorem pair_set_other {w : World} {b k : Nat} (hk : k ≠ b) (x' y' : Value) : ((w.setCell ⟨b, 0, none⟩ x').setCell ⟨b, 1, none⟩ y').heap[k]? = w.heap[k]? := by
  rw [heap_setCell_other _ ⟨b, 1, none⟩ k y' hk, heap_setCell_other _ ⟨b, 0, none⟩ k x' hk]

set_option maxRecDepth 100000 in
set_option maxHeartbeats 4000000 in
theorem valid_any (n : Int) (ao : Option Addr) (cap : Nat) (es : List (Int × Int)) (w : World) (he : EdgesAt w ao es) (hl : es.length ≤ 4611686018427387904) :
    Calls Tryz.prog 21 #[graphVal n ao es.length cap] w fun e w' => e = .returned (.bool (Si.valid n es)) ∧ Below w.heap.size w w' := by
  have HE := Nu.hid he
  clear he
  unfold graphVal
  by_cases h1 : n < 0
  · have hv := Si.valid_no (n := n) (es := es) (fun h => by have := h.lo; omega)
    rw [hv]
    go_enter Tryz.func21, Tryz.ntmps21
    go_wp2
    go_ret
    exact ⟨rfl, (Below.refl _ _).alloc (Nat.le_refl _) _⟩
  · by_cases h2 : 1048576 < n
    · have hv := Si.valid_no (n := n) (es := es) (fun h => by have := h.hi; omega)
      rw [hv]
      go_enter Tryz.func21, Tryz.ntmps21
      go_wp2
      go_ret
      exact ⟨rfl, (Below.refl _ _).alloc (Nat.le_refl _) _⟩
    · by_cases h3 : 4194304 < (es.length : Int)
      · have hv := Si.valid_no (n := n) (es := es) (fun h => by have := h.few; omega)
        rw [hv]
        go_enter Tryz.func21, Tryz.ntmps21
        go_wp2
        go_ret
        exact ⟨rfl, (Below.refl _ _).alloc (Nat.le_refl _) _⟩
      · go_enter Tryz.func21, Tryz.ntmps21
        go_wp2
        go_loopw [23] (fun c wr => ∃ (k : Nat) (l : Int × Int), k ≤ es.length ∧ c = .int .i64 k ∧ Si.UpTo n es k l ∧ wr.heap[w.heap.size]? = some (.cells #[.int .i64 n, .slice ao es.length cap] 24 (0, 0)) ∧ wr.heap[w.heap.size + 1]? = some (.cells #[.int .i64 l.1, .int .i64 l.2] 46 (0, 0)) ∧ Below w.heap.size w wr) (fun c _ => es.length - (intOf c).toNat)
        case atStart =>
          refine ⟨0, (0, 0), Nat.zero_le _, rfl, Si.UpTo.start n es, ?_, ?_, ((Below.refl _ _).alloc (Nat.le_refl _) _).alloc (by simp) _⟩
          · rw [Below.heap_alloc _ _ _ (by simp)]
            exact heap_alloc_new w _
          · have := heap_alloc_new (w.alloc (.cells #[.int .i64 n, .slice ao es.length cap] 24)) (.cells #[.int .i64 0, .int .i64 0] 46)
            simpa using this
        case round =>
          obtain ⟨k, l, hk, rfl, hup, hgb, hlb, hb⟩ := hrel
          by_cases hlt : k < es.length
          · have hlti : (k : Int) < (es.length : Int) := by omega
            have hk0 : (0 : Int) ≤ (k : Int) := by omega
            obtain ⟨p, hp⟩ : ∃ p, es[k]? = some p := ⟨_, List.getElem?_eq_getElem hlt⟩
            obtain ⟨b, o, rfl, c0, c1⟩ := (HE.out.later hb) k p hp
            obtain ⟨g0, -, -⟩ := pair_cells hgb
            obtain ⟨l0, l1, lf⟩ := pair_cells hlb
            have hsz := lt_of_block hlb
            have hsz0 := lt_of_block hgb
            have hbl : b < wr.heap.size := block_lt_of_cell c0
            have HUP := Nu.hid hup
            have HP := Nu.hid hp
            have HGB := Nu.hid hgb
            have HLB := Nu.hid hlb
            have HB := Nu.hid hb
            clear hup hp hgb hlb hb
            by_cases q1 : p.1 < 0
            · have hv := Si.valid_no (n := n) (es := es) (fun h => by have := (HUP.out.must h HP.out).1.1; omega)
              go_wp2
              go_ret
              exact ⟨by first | rfl | exact congrArg (fun b => Ending.returned (.bool b)) hv.symm, HB.out.alloc (by omega) _⟩
            · by_cases q2 : p.1 < p.2
              · by_cases q3 : p.2 < n
                · have hca := fun W => compare_any l p W
                  unfold edgeVal at hca
                  have HCA := Nu.hid hca
                  clear hca
                  by_cases q4 : Si.lt l p
                  · have hcf := Si.cf_neg.2 q4
                    generalize Si.cf l p = r at HCA hcf
                    go_wp2_with (go_at_call 36; refine (HCA.out _).mono ?_; rintro e w' ⟨rfl, hgr⟩; refine Hid.out ?_)
                    refine Nu.hid ?_
                    obtain ⟨qn, os', rfl⟩ := hgr
                    have hb1 := grow_below (wr.alloc (.cells #[.int .i64 p.1, .int .i64 p.2] 46)) qn os'
                    have hb2 : Below wr.heap.size wr (grow ((wr.alloc (.cells #[.int .i64 p.1, .int .i64 p.2] 46)).drewN qn) os') := ((Below.refl _ _).alloc (Nat.le_refl _) _).trans (hb1.mono (by simp))
                    have hnew : (grow ((wr.alloc (.cells #[.int .i64 p.1, .int .i64 p.2] 46)).drewN qn) os').heap[wr.heap.size]? = some (.cells #[.int .i64 p.1, .int .i64 p.2] 46 (0, 0)) := (hb1.block _ (by simp)).trans (heap_alloc_new wr _)
                    generalize grow ((wr.alloc (.cells #[.int .i64 p.1, .int .i64 p.2] 46)).drewN qn) os' = w2 at hb2 hnew ⊢
                    have HLB2 := Nu.hid ((hb2.block _ hsz).trans HLB.out)
                    have HGB2 := Nu.hid ((hb2.block _ hsz0).trans HGB.out)
                    obtain ⟨m0, m1, mf⟩ := pair_cells HLB2.out
                    obtain ⟨n0, n1, -⟩ := pair_cells hnew
                    have hsz2 := hb2.size
                    have HB2 := Nu.hid (HB.out.trans (hb2.mono (by omega)))
                    clear hb1 hb2 hnew c0 c1 g0 l0 l1 lf
                    go_wp2
                    go_roundw
                    case rel => exact ⟨k + 1, p, by omega, by go_num, HUP.out.step HP.out ⟨by omega, q2, q3⟩ q4, (pair_set_other (by omega) _ _).trans HGB2.out, pair_set HLB2.out _ _, (HB2.out.setCell (by simp) _).setCell (by simp) _⟩
                    case measure => simp [intOf]; omega
                  · have hv := Si.valid_no (n := n) (es := es) (fun h => q4 (HUP.out.must h HP.out).2)
                    have hcf : ¬ (Si.cf l p < 0) := fun h => q4 (Si.cf_neg.1 h)
                    generalize Si.cf l p = r at HCA hcf
                    go_wp2_with (go_at_call 36; refine (HCA.out _).mono ?_; rintro e w' ⟨rfl, hgr⟩; refine Hid.out ?_)
                    refine Nu.hid ?_
                    obtain ⟨qn, os', rfl⟩ := hgr
                    have hb1 := grow_below (wr.alloc (.cells #[.int .i64 p.1, .int .i64 p.2] 46)) qn os'
                    generalize grow ((wr.alloc (.cells #[.int .i64 p.1, .int .i64 p.2] 46)).drewN qn) os' = w2 at hb1 ⊢
                    have HB2 := Nu.hid ((HB.out.alloc (by omega) _).trans (hb1.mono (by simp; omega)))
                    clear hb1
                    go_wp2
                    go_ret
                    exact ⟨by first | rfl | exact congrArg (fun b => Ending.returned (.bool b)) hv.symm, HB2.out⟩
                · have hv := Si.valid_no (n := n) (es := es) (fun h => by have := (HUP.out.must h HP.out).1.2.2; omega)
                  go_wp2
                  go_ret
                  exact ⟨by first | rfl | exact congrArg (fun b => Ending.returned (.bool b)) hv.symm, HB.out.alloc (by omega) _⟩
              · have hv := Si.valid_no (n := n) (es := es) (fun h => by have := (HUP.out.must h HP.out).1.2.1; omega)
                go_wp2
                go_ret
                exact ⟨by first | rfl | exact congrArg (fun b => Ending.returned (.bool b)) hv.symm, HB.out.alloc (by omega) _⟩
          · obtain rfl : k = es.length := by omega
            have hv := Si.valid_iff.2 (hup.done (by omega) (by omega) (by omega))
            have HB := Nu.hid hb
            clear hb hup hgb hlb
            go_wp2
            go_ret
            exact ⟨by first | rfl | exact congrArg (fun b => Ending.returned (.bool b)) hv.symm, HB.out⟩

end Go.Proofs.YtalfpbalekbinaaGreat

/-
  What the rows have in common: a slice of integers that came in, copies of it in new memory, and the small closed facts.
-/
namespace Go.Proofs.YtalfpbalekbinaaGreat
open Go.ChangeShapes Go.WideShapes Go.ChangeAt Go.RowKit

theorem own : ownKnob Tryz.prog.godebug = none := by kernel_rfl
theorem laidOut : laidOutB Tryz.prog = true := by kernel_rfl
theorem cellsU8 : Tryz.prog.cellsOf 5 = 1 := by kernel_rfl
theorem cellsInt : Tryz.prog.cellsOf 3 = 1 := by kernel_rfl
theorem bytesU8 : Tryz.prog.bytesOf 5 = 1 := by kernel_rfl
theorem bytesInt : Tryz.prog.bytesOf 3 = 8 := by kernel_rfl
theorem Tryz.infoU8 : (Tryz.prog.info? 5).map (fun i => (i.zero, i.size, i.bytes)) = some (some (.int .u8 0), 1, 1) := by kernel_rfl

/-- A world for the witness. -/
noncomputable def settled (os : Os) : World := World.holding Tryz.prog os ⟨#[], #[], []⟩

/-- A slice of integers that came in: nil, or cap cells, the numbers zs, the first len of which are its elements; it takes at most the reach. -/
def IsRow (k : IntKind) (bytes : Nat) (w : World) (a : Option Addr) (len cap : Nat) (zs : List Int) : Prop :=
  (a = none ∧ len = 0 ∧ cap = 0 ∧ zs = []) ∨
  ∃ x, a = some x ∧ len ≤ cap ∧ cap * bytes ≤ 140737488351232 ∧ zs.length = cap ∧ (∀ i, i < zs.length → w.cell? (x.add i) = some (.int k (zs.getD i 0))) ∧ ∀ n ∈ zs, (Lit.int k n).wf = true

theorem IsRow.of_trod {H : Type} {enc : TypeId × Value → H} {W : World} {t e : TypeId} {k : IntKind} {a : Option Addr} {len cap : Nat} {d : DataW H} {p : List MemPlace} {ts : List TypeId} {ds : List (DataW H)} {j bytes : Nat}
    (ht : Tryz.prog.underlying t = some (.slice e)) (he : Tryz.prog.underlying e = some (.int k)) (hc : Tryz.prog.cellsOf e = 1) (hby : Tryz.prog.bytesOf e = bytes)
    (h : DataW.Trod enc Tryz.prog W 0 (fun _ => true) true t (.slice a len cap) d p) (hsz : (DataW.weightsEach Tryz.prog ts ds).all (· ≤ reachBytes) = true) (hts : ts[j]? = some t) (hds : ds[j]? = some d) :
    ∃ zs, IsRow k bytes W a len cap zs := by
  obtain ⟨fuel, hf⟩ := h
  rcases open_ints ht he hc hf with ⟨hcs, _⟩ | ⟨x, l, c, zs, hcs, _, hl, hm, hz, hx, hcell, hwz⟩
  · simp [Value.cells] at hcs
    obtain ⟨rfl, rfl, rfl⟩ := hcs
    exact ⟨[], .inl ⟨rfl, rfl, rfl, rfl⟩⟩
  · simp [Value.cells] at hcs
    obtain ⟨rfl, rfl, rfl⟩ := hcs
    simp only [Prod.mk.injEq] at hx
    obtain ⟨rfl, _⟩ := hx
    have hw := sized_slice hsz hts hds ht
    have hz' : zs.length = cap := by simpa using hz
    rw [hby] at hw
    simp only [lits, List.length_map, List.length_take, List.length_drop, reachBytes] at hw
    have e1 : min len zs.length + (zs.length - len) = cap := by omega
    rw [e1] at hw
    exact ⟨zs, .inr ⟨_, rfl, hl, hw, hz', hcell, hwz⟩⟩

theorem IsRow.take {k : IntKind} {bytes : Nat} {w : World} {a : Option Addr} {len cap : Nat} {zs : List Int} (h : IsRow k bytes w a len cap zs) : (zs.take len).length = len := by
  rcases h with ⟨_, rfl, _, rfl⟩ | ⟨_, _, hl, _, hz, _⟩
  · rfl
  · simp; omega

theorem IsRow.small {k : IntKind} {bytes : Nat} {w : World} {a : Option Addr} {len cap : Nat} {zs : List Int} (h : IsRow k bytes w a len cap zs) : len * bytes ≤ 140737488351232 := by
  rcases h with ⟨_, rfl, _, rfl⟩ | ⟨_, _, hl, hm, _⟩
  · simp
  · exact Nat.le_trans (Nat.mul_le_mul_right bytes hl) hm

theorem IsRow.later {k : IntKind} {bytes : Nat} {w w' : World} {a : Option Addr} {len cap : Nat} {zs : List Int} (h : IsRow k bytes w a len cap zs) (hb : Below w.heap.size w w') : IsRow k bytes w' a len cap zs := by
  rcases h with h | ⟨x, rfl, hl, hm, hz, hc, hw⟩
  · exact .inl h
  · refine .inr ⟨x, rfl, hl, hm, hz, fun i hi => ?_, hw⟩
    exact (hb.cell (p := x.add i) (block_lt_of_cell (hc i hi))).trans (hc i hi)

theorem wf_u8 {n : Int} (h : (Lit.int .u8 n).wf = true) : 0 ≤ n ∧ n ≤ 255 := by simpa using bounds_u8 h

theorem IsRow.text {w : World} {a : Option Addr} {len cap : Nat} {zs : List Int} (h : IsRow .u8 1 w a len cap zs) : HasText w a len (fun i => zs.getD i 0) := by
  intro i hi
  rcases h with ⟨_, rfl, _⟩ | ⟨x, rfl, hl, hm, hz, hc, hw⟩
  · omega
  · have hlt : i < zs.length := by omega
    have hci := hc i hlt
    obtain ⟨b, o, sp⟩ := x
    have hsp : sp = none := by simpa [Addr.add] using World.cell?_spot (hc 0 (by omega))
    subst hsp
    refine ⟨?_, b, o, rfl, ?_⟩
    · have hm : zs.getD i 0 ∈ zs := by rw [List.getD_eq_getElem?_getD, List.getElem?_eq_getElem hlt]; simp
      exact wf_u8 (hw _ hm)
    · have e : ((⟨b, o, none⟩ : Addr).add i) = ⟨b, o + i, none⟩ := by
        by_cases h0 : i = 0 <;> simp [Addr.add, h0]
      rw [e] at hci
      exact hci

/-- What an owned row of bytes is as a text. -/
theorem own_text {w : World} {B gb c len : Nat} {zs : List Int} (hz : (zs.take len).length = len) (hb : ∀ i, i < len → 0 ≤ zs.getD i 0 ∧ zs.getD i 0 ≤ 255) (h : w.ownsRow B 5 1 (.slice (some ⟨gb, 0, none⟩) len c) len ((zs.take len).map (Value.int .u8))) : HasText w (some ⟨gb, 0, none⟩) len (fun i => zs.getD i 0) := by
  intro i hi
  refine ⟨hb i hi, gb, 0, rfl, ?_⟩
  have hl : i < zs.length := by simp at hz; omega
  have hc := World.ownsRow.cells h (g := gb) rfl i (.int .u8 (zs.getD i 0)) (by
    rw [List.getElem?_map, List.getElem?_take, if_pos hi, List.getElem?_eq_getElem hl]
    simp [List.getD_eq_getElem?_getD, List.getElem?_eq_getElem hl])
  have e : ((⟨gb, 0, none⟩ : Addr).add i) = ⟨gb, 0 + i, none⟩ := by
    by_cases h0 : i = 0 <;> simp [Addr.add, h0]
  rw [e] at hc
  exact hc

/-- 'append(v, xs...)', v a row of the call's own that is not nil, xs a slice that came in. -/
theorem wpList_grow {ops : Array Oper} {rest : List Oper} {o : Oper} {a : Act} {Q : Exit → Act → World → Prop} (hgd : o.guard = none) (s x : Operand) (t : TypeId)
    (ho : o.op = .call { callee := .builtin .append, args := #[s, x], argTypes := #[t, t] }) (e : TypeId) (k : IntKind) (i0 : TypeInfo) (bytes : Nat) (hu : Tryz.prog.underlying t = some (.slice e)) (hi : Tryz.prog.info? e = some i0)
    (hz0 : i0.zero = some (.int k 0)) (hz1 : i0.size = 1) (hz2 : i0.bytes = bytes) (W : World) (B n : Nat) (g0 c0 : Nat) (xs : List Value) (hown : W.ownsRow B e 1 (.slice (some ⟨g0, 0, none⟩) n c0) n xs) (hB : B ≤ W.heap.size)
    (ao : Option Addr) (len cap : Nat) (zs : List Int) (hs : a.eval s = .slice (some ⟨g0, 0, none⟩) n c0) (hx : a.eval x = .slice ao len cap) (hrow : IsRow k bytes W ao len cap zs) (h63 : n + len ≤ maxLen) (hbytes : (n + len) * bytes ≤ 140737488355328)
    (h : ∀ gb c w', w'.ownsRow B e 1 (.slice (some ⟨gb, 0, none⟩) (n + len) c) (n + len) (xs ++ (zs.take len).map (Value.int k)) → B ≤ gb → gb < w'.heap.size → n + len ≤ c → Below B W w' → wpList Tryz.prog ops Q rest (a.put o.dst (.slice (some ⟨gb, 0, none⟩) (n + len) c)) w') :
    wpList Tryz.prog ops Q (o :: rest) a W := by
  have htk := hrow.take
  have hlt0 := World.ownsRow.lt hown g0 rfl
  rcases hrow with ⟨rfl, rfl, rfl, rfl⟩ | ⟨y, rfl, hl, hm, hz, hc, hw⟩
  · refine wpList_append_own_none hgd s x t ho B e i0 1 hu hi _ n xs hs hown hx ?_
    have hc0 : n ≤ c0 := by
      rcases hown.2 with ⟨hnil, _⟩ | ⟨gb, c, cur, e', _, _, hlc, _⟩
      · cases hnil
      · cases e'; exact hlc
    exact h g0 c0 W (by simpa using hown) hlt0.1 hlt0.2 (by simpa using hc0) (Below.refl _ _)
  · refine wpList_append_own _ hgd s x t ho B e i0 (.int k 0) 1 bytes hu hi hz0 hz1 hz2 rfl (by decide) _ n xs hs hown y len cap ((zs.take len).map (Value.int k)) hx (by rw [List.length_map, htk]; omega) ?_ (ints_oneCell k _) h63 hbytes hB ?_
    · intro j u hj
      rw [List.getElem?_map, List.getElem?_take] at hj
      by_cases hjl : j < len
      · rw [if_pos hjl] at hj
        have hlt : j < zs.length := by omega
        rw [List.getElem?_eq_getElem hlt] at hj
        simp at hj
        subst hj
        have hcj := hc j hlt
        rw [List.getD_eq_getElem?_getD, List.getElem?_eq_getElem hlt] at hcj
        exact hcj
      · rw [if_neg hjl] at hj
        simp at hj
    · intro v' w' hown' hg hiff
      rcases hown'.2 with ⟨hnil, _⟩ | ⟨gb, c, cur, rfl, hgb, hh, hlc, _⟩
      · have := (hiff.1 hnil).1
        cases this
      · exact h gb c w' hown' hgb (lt_of_block hh) hlc ((Below.refl B W).grown hg hB (fun q hq => by cases hq; exact hlt0.1))

/-- 'append(v, xs...)' once more, at a single operation. -/
theorem wp_grow {o : Oper} {a : Act} {K : Act → World → Prop} {Q : Exit → Act → World → Prop} (s x : Operand) (t : TypeId)
    (ho : o.op = .call { callee := .builtin .append, args := #[s, x], argTypes := #[t, t] }) (e : TypeId) (k : IntKind) (i0 : TypeInfo) (bytes : Nat) (hu : Tryz.prog.underlying t = some (.slice e)) (hi : Tryz.prog.info? e = some i0)
    (hz0 : i0.zero = some (.int k 0)) (hz1 : i0.size = 1) (hz2 : i0.bytes = bytes) (W : World) (B n : Nat) (g0 c0 : Nat) (xs : List Value) (hown : W.ownsRow B e 1 (.slice (some ⟨g0, 0, none⟩) n c0) n xs) (hB : B ≤ W.heap.size)
    (ao : Option Addr) (len cap : Nat) (zs : List Int) (hs : a.eval s = .slice (some ⟨g0, 0, none⟩) n c0) (hx : a.eval x = .slice ao len cap) (hrow : IsRow k bytes W ao len cap zs) (h63 : n + len ≤ maxLen) (hbytes : (n + len) * bytes ≤ 140737488355328)
    (h : ∀ gb c w', w'.ownsRow B e 1 (.slice (some ⟨gb, 0, none⟩) (n + len) c) (n + len) (xs ++ (zs.take len).map (Value.int k)) → B ≤ gb → gb < w'.heap.size → n + len ≤ c → Below B W w' → K (a.put o.dst (.slice (some ⟨gb, 0, none⟩) (n + len) c)) w') :
    o.wp Tryz.prog a W K Q := by
  have htk := hrow.take
  have hlt0 := World.ownsRow.lt hown g0 rfl
  rcases hrow with ⟨rfl, rfl, rfl, rfl⟩ | ⟨y, rfl, hl, hm, hz, hc, hw⟩
  · have hc0 : n ≤ c0 := by
      rcases hown.2 with ⟨hnil, _⟩ | ⟨gb, c, cur, e', _, _, hlc, _⟩
      · cases hnil
      · cases e'; exact hlc
    have hrun := run_append_owned_none (P := Tryz.prog) (w := W) B t o.type e i0 1 hu hi _ n xs hown
    unfold Oper.wp
    simp [execOp, ho, resolve, invoke, builtin, hs, hx, hrun, Result.andThen]
    exact h g0 c0 W (by simpa using hown) hlt0.1 hlt0.2 (by simpa using hc0) (Below.refl _ _)
  · refine wp_append_own W s x t ho B e i0 (.int k 0) 1 bytes hu hi hz0 hz1 hz2 rfl (by decide) _ n xs hs hown y len cap ((zs.take len).map (Value.int k)) hx (by rw [List.length_map, htk]; omega) ?_ (ints_oneCell k _) h63 hbytes hB ?_
    · intro j u hj
      rw [List.getElem?_map, List.getElem?_take] at hj
      by_cases hjl : j < len
      · rw [if_pos hjl] at hj
        have hlt : j < zs.length := by omega
        rw [List.getElem?_eq_getElem hlt] at hj
        simp at hj
        subst hj
        have hcj := hc j hlt
        rw [List.getD_eq_getElem?_getD, List.getElem?_eq_getElem hlt] at hcj
        exact hcj
      · rw [if_neg hjl] at hj
        simp at hj
    · intro v' w' hown' hg hiff
      rcases hown'.2 with ⟨hnil, _⟩ | ⟨gb, c, cur, rfl, hgb, hh, hlc, _⟩
      · have := (hiff.1 hnil).1
        cases this
      · exact h gb c w' hown' hgb (lt_of_block hh) hlc ((Below.refl B W).grown hg hB (fun q hq => by cases hq; exact hlt0.1))

/-- 'append([]T{}, xs...)': a copy in new memory. -/
theorem wpList_copy {ops : Array Oper} {rest : List Oper} {o : Oper} {a : Act} {Q : Exit → Act → World → Prop} (hgd : o.guard = none) (s x : Operand) (t : TypeId)
    (ho : o.op = .call { callee := .builtin .append, args := #[s, x], argTypes := #[t, t] }) (e : TypeId) (k : IntKind) (i0 : TypeInfo) (bytes : Nat) (hu : Tryz.prog.underlying t = some (.slice e)) (hi : Tryz.prog.info? e = some i0)
    (hz0 : i0.zero = some (.int k 0)) (hz1 : i0.size = 1) (hz2 : i0.bytes = bytes) (hpos : 0 < bytes) (W : World) (ao : Option Addr) (len cap : Nat) (zs : List Int) (hs : a.eval s = .slice (some ⟨W.heap.size, 0, none⟩) 0 0) (hx : a.eval x = .slice ao len cap)
    (hrow : IsRow k bytes W ao len cap zs)
    (h : ∀ gb c w', w'.ownsRow W.heap.size e 1 (.slice (some ⟨gb, 0, none⟩) len c) len ((zs.take len).map (Value.int k)) → W.heap.size ≤ gb → gb < w'.heap.size → len ≤ c → Below W.heap.size W w' → wpList Tryz.prog ops Q rest (a.put o.dst (.slice (some ⟨gb, 0, none⟩) len c)) w') :
    wpList Tryz.prog ops Q (o :: rest) a (W.alloc (.cells #[] e)) := by
  have hown0 : (W.alloc (.cells #[] e)).ownsRow W.heap.size e 1 (.slice (some ⟨W.heap.size, 0, none⟩) 0 0) 0 [] := World.ownsRow_made W #[] 0 (Nat.le_refl _) (Nat.zero_le _) rfl
  have hb0 : Below W.heap.size W (W.alloc (.cells #[] e)) := (Below.refl _ _).alloc (Nat.le_refl _) _
  have htk := hrow.take
  have hsm := hrow.small
  rcases hrow with ⟨rfl, rfl, rfl, rfl⟩ | ⟨y, rfl, hl, hm, hz, hc, hw⟩
  · refine wpList_append_own_none hgd s x t ho W.heap.size e i0 1 hu hi _ 0 [] hs hown0 hx ?_
    exact h _ _ _ hown0 (Nat.le_refl _) (by simp) (Nat.le_refl _) hb0
  · have hlb : len ≤ 140737488351232 := Nat.le_trans (Nat.le_mul_of_pos_right len hpos) hsm
    refine wpList_append_own _ hgd s x t ho W.heap.size e i0 (.int k 0) 1 bytes hu hi hz0 hz1 hz2 rfl (by decide) _ 0 [] hs hown0 y len cap ((zs.take len).map (Value.int k)) hx (by rw [List.length_map, htk]; omega) ?_ (ints_oneCell k _) (by unfold maxLen; omega) (by rw [Nat.zero_add]; omega) (by simp) ?_
    · intro j u hj
      rw [List.getElem?_map, List.getElem?_take] at hj
      by_cases hjl : j < len
      · rw [if_pos hjl] at hj
        have hlt : j < zs.length := by omega
        rw [List.getElem?_eq_getElem hlt] at hj
        simp at hj
        subst hj
        have hcj := hc j hlt
        rw [List.getD_eq_getElem?_getD, List.getElem?_eq_getElem hlt] at hcj
        exact (World.grownBy_alloc W _ none).cell hcj (by simp)
      · rw [if_neg hjl] at hj
        simp at hj
    · intro v' w' hown' hg hiff
      rw [Nat.zero_add, List.nil_append] at hown'
      rcases hown'.2 with ⟨hnil, _⟩ | ⟨gb, c, cur, rfl, hgb, hh, hlc, _⟩
      · have := (hiff.1 hnil).1
        cases this
      · exact h gb c w' hown' hgb (lt_of_block hh) hlc (hb0.grown hg (by simp) (fun q hq => by cases hq; exact Nat.le_refl _))

end Go.Proofs.YtalfpbalekbinaaGreat
