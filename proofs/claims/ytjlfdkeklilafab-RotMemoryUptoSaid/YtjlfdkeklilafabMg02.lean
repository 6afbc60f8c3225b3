import Derived.Test.YtjlfdkeklilafabMg00
import Derived.Test.YtjlfdkeklilafabMg01
import Derived.Sort.Grow
import Derived.Deep.RegionHeld3
import Derived.Laws.OwnMore
/-
  The order of edges as the program asks it: cmp.Compare, cmp.Or, compare; as the document does: Less.
-/
namespace Go.Proofs.Ytjlfdkeklilafab
open Go.RowKit Go.Sort

/-- An edge as a value. -/
def edgeVal (e : Int × Int) : Value := .agg #[.int .i64 e.1, .int .i64 e.2]

theorem new2 (W : World) (k : Nat) (hk : W.heap.size = k) (x y : Value) (t : TypeId) : (W.alloc (.cells #[x, y] t)).cell? ⟨k, 0, none⟩ = some x ∧ (W.alloc (.cells #[x, y] t)).cell? ⟨k, 1, none⟩ = some y := by
  subst hk
  constructor <;> simp

theorem new2d (W : World) (k : Nat) (hk : W.heap.size = k) (x y : Value) (t : TypeId) : (W.alloc (.cells #[x, y] t)).drew.cell? ⟨k, 0, none⟩ = some x ∧ (W.alloc (.cells #[x, y] t)).drew.cell? ⟨k, 1, none⟩ = some y := new2 W k hk x y t

theorem size2 (W : World) (x y : Obj) : ((W.alloc x).alloc y).heap.size = W.heap.size + 1 + 1 := by simp

def Si.cmpInt (x y : Int) : Int := if x < y then -1 else if y < x then 1 else 0

set_option maxHeartbeats 400000 in
theorem cmpInt_any (x y : Int) (w : World) : Calls Try.prog 58 #[.int .i64 x, .int .i64 y] w fun e w' => e = .returned (.int .i64 (Si.cmpInt x y)) ∧ w' = w := by
  unfold Si.cmpInt
  by_cases h1 : x < y
  · rw [if_pos h1]
    go_enter Try.func58, Try.ntmps58
    go_wp2
    go_ret
    exact ⟨rfl, rfl⟩
  · rw [if_neg h1]
    by_cases h2 : y < x
    · rw [if_pos h2]
      go_enter Try.func58, Try.ntmps58
      go_wp2
      go_ret
      exact ⟨rfl, rfl⟩
    · rw [if_neg h2]
      go_enter Try.func58, Try.ntmps58
      go_wp2
      go_ret
      exact ⟨rfl, rfl⟩

def Si.orInt (p q : Int) : Int := if p ≠ 0 then p else q

theorem cf_or (a b : Int × Int) : Si.cf a b = Si.orInt (Si.cmpInt a.1 b.1) (Si.cmpInt a.2 b.2) := by
  unfold Si.cf Si.cmpInt Si.orInt
  by_cases h1 : a.1 < b.1
  · simp [h1]
  · by_cases h2 : b.1 < a.1
    · simp [h1, h2]
    · simp [h1, h2]

set_option maxHeartbeats 1000000 in
theorem or_any (p q : Int) (W : World) (b : Nat) (h0 : W.cell? ⟨b, 0, none⟩ = some (.int .i64 p)) (h1 : W.cell? ⟨b, 1, none⟩ = some (.int .i64 q)) : Calls Try.prog 57 #[.slice (some ⟨b, 0, none⟩) 2 2] W fun e w' => e = .returned (.int .i64 (Si.orInt p q)) ∧ w' = W := by
  unfold Si.orInt
  by_cases hp : p = 0
  · subst hp
    rw [if_neg (by simp)]
    by_cases hq : q = 0
    · subst hq
      go_enter Try.func57, Try.ntmps57
      go_wp2
      refine wp_loop_rounds 3 ?_
      rw [rounds_succ]
      go_wp2
      rw [rounds_succ]
      go_wp2
      rw [rounds_succ]
      go_wp2
      go_ret
      exact ⟨rfl, rfl⟩
    · go_enter Try.func57, Try.ntmps57
      go_wp2
      refine wp_loop_rounds 3 ?_
      rw [rounds_succ]
      go_wp2
      rw [rounds_succ]
      go_wp2
      go_ret
      exact ⟨rfl, rfl⟩
  · rw [if_pos hp]
    go_enter Try.func57, Try.ntmps57
    go_wp2
    refine wp_loop_rounds 3 ?_
    rw [rounds_succ]
    go_wp2
    go_ret
    exact ⟨rfl, rfl⟩

set_option maxRecDepth 100000 in
set_option maxHeartbeats 4000000 in
theorem compare_any (a b : Int × Int) (w : World) : Calls Try.prog 54 #[edgeVal a, edgeVal b] w fun e w' => e = .returned (.int .i64 (Si.cf a b)) ∧ ∃ q os', w' = grow (w.drewN q) os' := by
  rw [cf_or]
  unfold edgeVal
  go_enter Try.func54, Try.ntmps54
  go_wp2
  go_region_held3 (fun w' => w'.cell? ⟨w.heap.size, 0, none⟩ = some (.int .i64 a.1) ∧ w'.cell? ⟨w.heap.size, 1, none⟩ = some (.int .i64 a.2) ∧ w'.cell? ⟨w.heap.size + 1, 0, none⟩ = some (.int .i64 b.1) ∧ w'.cell? ⟨w.heap.size + 1, 1, none⟩ = some (.int .i64 b.2))
    (go_keep)
    (first
      | (go_at_call 58; refine (cmpInt_any _ _ _).mono ?_; rintro e w' ⟨rfl, rfl⟩)
      | (go_at_call 57; refine (or_any (Si.cmpInt a.1 b.1) (Si.cmpInt a.2 b.2) _ _ (new2d _ _ (size2 _ _ _) _ _ _).1 (new2d _ _ (size2 _ _ _) _ _ _).2).mono ?_; rintro e w' ⟨rfl, rfl⟩))
  go_wp2
  go_ret
  exact ⟨rfl, 1, _, by rw [alloc_eq_grow, alloc_eq_grow, grow_grow, alloc_eq_grow, grow_grow]; rfl⟩

theorem grow_below (w : World) (q : Nat) (os : Array Obj) : Below w.heap.size w (grow (w.drewN q) os) := by
  refine ⟨rfl, rfl, rfl, by simp [grow], fun k hk => ?_⟩
  simp [grow, Array.getElem?_append_left hk]

end Go.Proofs.Ytjlfdkeklilafab

/-
  Edges and graphs in memory.
-/
namespace Go.Proofs.Ytjlfdkeklilafab
open Go.RowKit

/-- The edges es lie at ao. -/
def EdgesAt (w : World) (ao : Option Addr) (es : List (Int × Int)) : Prop :=
  ∀ (j : Nat) (p : Int × Int), es[j]? = some p → ∃ b o : Nat, ao = some ⟨b, o, none⟩ ∧ w.cell? ⟨b, o + j * 2, none⟩ = some (.int .i64 p.1) ∧ w.cell? ⟨b, o + j * 2 + 1, none⟩ = some (.int .i64 p.2)

theorem EdgesAt.later {w w' : World} {ao : Option Addr} {es : List (Int × Int)} (h : EdgesAt w ao es) (hb : Below w.heap.size w w') : EdgesAt w' ao es := fun j p hj => by
  obtain ⟨b, o, e, h0, h1⟩ := h j p hj
  exact ⟨b, o, e, (hb.cell (p := ⟨b, o + j * 2, none⟩) (block_lt_of_cell h0)).trans h0, (hb.cell (p := ⟨b, o + j * 2 + 1, none⟩) (block_lt_of_cell h1)).trans h1⟩

theorem EdgesAt.nil (w : World) (ao : Option Addr) : EdgesAt w ao [] := fun j p hj => by simp at hj

/-- A graph as a value. -/
def graphVal (n : Int) (ao : Option Addr) (len cap : Nat) : Value := .agg #[.int .i64 n, .slice ao len cap]

end Go.Proofs.Ytjlfdkeklilafab

/-
  Whether a graph is valid, as the program asks it.
-/
namespace Go.Proofs.Ytjlfdkeklilafab
open Go.RowKit Go.Sort

namespace Si

/-- The first k edges are as a valid graph's; l is the one before. -/
def UpTo (n : Int) (es : List (Int × Int)) (k : Nat) (l : Int × Int) : Prop :=
  (∀ (j : Nat) (p : Int × Int), j < k → es[j]? = some p → ok n p) ∧ (∀ (j : Nat) (p q : Int × Int), j + 1 < k → es[j]? = some p → es[j + 1]? = some q → lt p q) ∧ ((k = 0 ∧ l = (0, 0)) ∨ ∃ k', k = k' + 1 ∧ es[k']? = some l)

theorem UpTo.start (n : Int) (es : List (Int × Int)) : UpTo n es 0 (0, 0) := ⟨fun j p h => by omega, fun j p q h => by omega, .inl ⟨rfl, rfl⟩⟩

theorem UpTo.step {n : Int} {es : List (Int × Int)} {k : Nat} {l p : Int × Int} (h : UpTo n es k l) (hp : es[k]? = some p) (ho : ok n p) (hl : lt l p) : UpTo n es (k + 1) p := by
  refine ⟨fun j q hj hq => ?_, fun j q r hj hq hr => ?_, .inr ⟨k, rfl, hp⟩⟩
  · by_cases hjk : j = k
    · subst hjk; rw [hp] at hq; cases hq; exact ho
    · exact h.1 j q (by omega) hq
  · by_cases hjk : j + 1 = k
    · subst hjk
      rw [hp] at hr
      cases hr
      rcases h.2.2 with ⟨h0, _⟩ | ⟨k', hk, hl'⟩
      · omega
      · obtain rfl : j = k' := by omega
        rw [hl'] at hq
        cases hq
        exact hl
    · exact h.2.1 j q r (by omega) hq hr

theorem UpTo.must {n : Int} {es : List (Int × Int)} {k : Nat} {l p : Int × Int} (h : UpTo n es k l) (hv : Val n es) (hp : es[k]? = some p) : ok n p ∧ lt l p := by
  have ho := hv.each k p hp
  refine ⟨ho, ?_⟩
  rcases h.2.2 with ⟨rfl, rfl⟩ | ⟨k', rfl, hl⟩
  · unfold ok at ho
    unfold lt
    dsimp only
    omega
  · exact hv.up k' l p hl hp

theorem UpTo.done {n : Int} {es : List (Int × Int)} {l : Int × Int} (h : UpTo n es es.length l) (h0 : 0 ≤ n) (h1 : n ≤ 1048576) (h2 : es.length ≤ 4194304) : Val n es := by
  have lim : ∀ (j : Nat) (p : Int × Int), es[j]? = some p → j < es.length := fun j p hj => by
    rcases Nat.lt_or_ge j es.length with hl | hl
    · exact hl
    · rw [List.getElem?_eq_none hl] at hj; cases hj
  exact ⟨h0, h1, h2, fun j p hj => h.1 j p (lim j p hj) hj, fun j p q hp hq => h.2.1 j p q (lim _ _ hq) hp hq⟩

end Si

theorem pair_cells {w : World} {b : Nat} {t : TypeId} {x y : Value} (h : w.heap[b]? = some (.cells #[x, y] t (0, 0))) : w.cell? ⟨b, 0, none⟩ = some x ∧ w.cell? ⟨b, 1, none⟩ = some y ∧ ∀ i, w.frozen? ⟨b, i, none⟩ = false := by
  refine ⟨by simp [World.cell?, h], by simp [World.cell?, h], fun i => by simp [World.frozen?, h]⟩

theorem pair_set {w : World} {b : Nat} {t : TypeId} {x y : Value} (h : w.heap[b]? = some (.cells #[x, y] t (0, 0))) (x' y' : Value) : ((w.setCell ⟨b, 0, none⟩ x').setCell ⟨b, 1, none⟩ y').heap[b]? = some (.cells #[x', y'] t (0, 0)) := by
  have h1 := heap_setCell_same w b 0 _ t x' h
  have h2 := heap_setCell_same _ b 1 _ t y' h1
  simpa using h2

theorem pair_set_other {w : World} {b k : Nat} (hk : k ≠ b) (x' y' : Value) : ((w.setCell ⟨b, 0, none⟩ x').setCell ⟨b, 1, none⟩ y').heap[k]? = w.heap[k]? := by
  rw [heap_setCell_other _ ⟨b, 1, none⟩ k y' hk, heap_setCell_other _ ⟨b, 0, none⟩ k x' hk]

set_option maxRecDepth 100000 in
set_option maxHeartbeats 4000000 in
theorem valid_any (n : Int) (ao : Option Addr) (cap : Nat) (es : List (Int × Int)) (w : World) (he : EdgesAt w ao es) (hl : es.length ≤ 4611686018427387904) :
    Calls Try.prog 52 #[graphVal n ao es.length cap] w fun e w' => e = .returned (.bool (Si.valid n es)) ∧ Below w.heap.size w w' := by
  have HE := Nu.hid he
  clear he
  unfold graphVal
  by_cases h1 : n < 0
  · have hv := Si.valid_no (n := n) (es := es) (fun h => by have := h.lo; omega)
    rw [hv]
    go_enter Try.func52, Try.ntmps52
    go_wp2
    go_ret
    exact ⟨rfl, (Below.refl _ _).alloc (Nat.le_refl _) _⟩
  · by_cases h2 : 1048576 < n
    · have hv := Si.valid_no (n := n) (es := es) (fun h => by have := h.hi; omega)
      rw [hv]
      go_enter Try.func52, Try.ntmps52
      go_wp2
      go_ret
      exact ⟨rfl, (Below.refl _ _).alloc (Nat.le_refl _) _⟩
    · by_cases h3 : 4194304 < (es.length : Int)
      · have hv := Si.valid_no (n := n) (es := es) (fun h => by have := h.few; omega)
        rw [hv]
        go_enter Try.func52, Try.ntmps52
        go_wp2
        go_ret
        exact ⟨rfl, (Below.refl _ _).alloc (Nat.le_refl _) _⟩
      · go_enter Try.func52, Try.ntmps52
        go_wp2
        go_loopw [23] (fun c wr => ∃ (k : Nat) (l : Int × Int), k ≤ es.length ∧ c = .int .i64 k ∧ Si.UpTo n es k l ∧ wr.heap[w.heap.size]? = some (.cells #[.int .i64 n, .slice ao es.length cap] 24 (0, 0)) ∧ wr.heap[w.heap.size + 1]? = some (.cells #[.int .i64 l.1, .int .i64 l.2] 47 (0, 0)) ∧ Below w.heap.size w wr) (fun c _ => es.length - (intOf c).toNat)
        case atStart =>
          refine ⟨0, (0, 0), Nat.zero_le _, rfl, Si.UpTo.start n es, ?_, ?_, ((Below.refl _ _).alloc (Nat.le_refl _) _).alloc (by simp) _⟩
          · rw [Below.heap_alloc _ _ _ (by simp)]
            exact heap_alloc_new w _
          · have := heap_alloc_new (w.alloc (.cells #[.int .i64 n, .slice ao es.length cap] 24)) (.cells #[.int .i64 0, .int .i64 0] 47)
            simpa using this
        case round =>
          obtain ⟨k, l, hk, rfl, hup, hgb, hlb, hb⟩ := hrel
          by_cases hlt : k < es.length
          · have hlti : (k : Int) < (es.length : Int) := by omega
            have hk0 : (0 : Int) ≤ (k : Int) := by omega
            obtain ⟨p, hp⟩ : ∃ p, es[k]? = some p := ⟨_, List.getElem?_eq_getElem hlt⟩
            obtain ⟨b, o, rfl, c0, c1⟩ := (HE.out.later hb) k p hp
            obtain ⟨g0, -, -⟩ := pair_cells hgb
            obtain ⟨l0, l1, lf⟩ := pair_cells hlb
            have hsz := lt_of_block hlb
            have hsz0 := lt_of_block hgb
            have hbl : b < wr.heap.size := block_lt_of_cell c0
            have HUP := Nu.hid hup
            have HP := Nu.hid hp
            have HGB := Nu.hid hgb
            have HLB := Nu.hid hlb
            have HB := Nu.hid hb
            clear hup hp hgb hlb hb
            by_cases q1 : p.1 < 0
            · have hv := Si.valid_no (n := n) (es := es) (fun h => by have := (HUP.out.must h HP.out).1.1; omega)
              go_wp2
              go_ret
              exact ⟨by first | rfl | exact congrArg (fun b => Ending.returned (.bool b)) hv.symm, HB.out.alloc (by omega) _⟩
            · by_cases q2 : p.1 < p.2
              · by_cases q3 : p.2 < n
                · have hca := fun W => compare_any l p W
                  unfold edgeVal at hca
                  have HCA := Nu.hid hca
                  clear hca
                  by_cases q4 : Si.lt l p
                  · have hcf := Si.cf_neg.2 q4
                    generalize Si.cf l p = r at HCA hcf
                    go_wp2_with (go_at_call 54; refine (HCA.out _).mono ?_; rintro e w' ⟨rfl, hgr⟩; refine Hid.out ?_)
                    refine Nu.hid ?_
                    obtain ⟨qn, os', rfl⟩ := hgr
                    have hb1 := grow_below (wr.alloc (.cells #[.int .i64 p.1, .int .i64 p.2] 47)) qn os'
                    have hb2 : Below wr.heap.size wr (grow ((wr.alloc (.cells #[.int .i64 p.1, .int .i64 p.2] 47)).drewN qn) os') := ((Below.refl _ _).alloc (Nat.le_refl _) _).trans (hb1.mono (by simp))
                    have hnew : (grow ((wr.alloc (.cells #[.int .i64 p.1, .int .i64 p.2] 47)).drewN qn) os').heap[wr.heap.size]? = some (.cells #[.int .i64 p.1, .int .i64 p.2] 47 (0, 0)) := (hb1.block _ (by simp)).trans (heap_alloc_new wr _)
                    generalize grow ((wr.alloc (.cells #[.int .i64 p.1, .int .i64 p.2] 47)).drewN qn) os' = w2 at hb2 hnew ⊢
                    have HLB2 := Nu.hid ((hb2.block _ hsz).trans HLB.out)
                    have HGB2 := Nu.hid ((hb2.block _ hsz0).trans HGB.out)
                    obtain ⟨m0, m1, mf⟩ := pair_cells HLB2.out
                    obtain ⟨n0, n1, -⟩ := pair_cells hnew
                    have hsz2 := hb2.size
                    have HB2 := Nu.hid (HB.out.trans (hb2.mono (by omega)))
                    clear hb1 hb2 hnew c0 c1 g0 l0 l1 lf
                    go_wp2
                    go_roundw
                    case rel => exact ⟨k + 1, p, by omega, by go_num, HUP.out.step HP.out ⟨by omega, q2, q3⟩ q4, (pair_set_other (by omega) _ _).trans HGB2.out, pair_set HLB2.out _ _, (HB2.out.setCell (by simp) _).setCell (by simp) _⟩
                    case measure => simp [intOf]; omega
                  · have hv := Si.valid_no (n := n) (es := es) (fun h => q4 (HUP.out.must h HP.out).2)
                    have hcf : ¬ (Si.cf l p < 0) := fun h => q4 (Si.cf_neg.1 h)
                    generalize Si.cf l p = r at HCA hcf
                    go_wp2_with (go_at_call 54; refine (HCA.out _).mono ?_; rintro e w' ⟨rfl, hgr⟩; refine Hid.out ?_)
                    refine Nu.hid ?_
                    obtain ⟨qn, os', rfl⟩ := hgr
                    have hb1 := grow_below (wr.alloc (.cells #[.int .i64 p.1, .int .i64 p.2] 47)) qn os'
                    generalize grow ((wr.alloc (.cells #[.int .i64 p.1, .int .i64 p.2] 47)).drewN qn) os' = w2 at hb1 ⊢
                    have HB2 := Nu.hid ((HB.out.alloc (by omega) _).trans (hb1.mono (by simp; omega)))
                    clear hb1
                    go_wp2
                    go_ret
                    exact ⟨by first | rfl | exact congrArg (fun b => Ending.returned (.bool b)) hv.symm, HB2.out⟩
                · have hv := Si.valid_no (n := n) (es := es) (fun h => by have := (HUP.out.must h HP.out).1.2.2; omega)
                  go_wp2
                  go_ret
                  exact ⟨by first | rfl | exact congrArg (fun b => Ending.returned (.bool b)) hv.symm, HB.out.alloc (by omega) _⟩
              · have hv := Si.valid_no (n := n) (es := es) (fun h => by have := (HUP.out.must h HP.out).1.2.1; omega)
                go_wp2
                go_ret
                exact ⟨by first | rfl | exact congrArg (fun b => Ending.returned (.bool b)) hv.symm, HB.out.alloc (by omega) _⟩
          · obtain rfl : k = es.length := by omega
            have hv := Si.valid_iff.2 (hup.done (by omega) (by omega) (by omega))
            have HB := Nu.hid hb
            clear hb hup hgb hlb
            go_wp2
            go_ret
            exact ⟨by first | rfl | exact congrArg (fun b => Ending.returned (.bool b)) hv.symm, HB.out⟩

end Go.Proofs.Ytjlfdkeklilafab

/-
  Half-edges: where they begin, where they lead, whether they leave a vertex: the program.
-/
namespace Go.Proofs.Ytjlfdkeklilafab
open Go.RowKit Go.Sort

set_option maxRecDepth 100000 in
set_option maxHeartbeats 4000000 in
theorem leadsTo_any (n : Nat) (ao : Option Addr) (ca : Nat) (es : List (Int × Int)) (j : Nat) (w : World) (he : EdgesAt w ao es) (hv : Si.Val n es) (hj : j < 2 * es.length) :
    Calls Try.prog 24 #[.agg #[.int .i64 (n : Int), .slice ao es.length ca], .int .i64 (j : Int)] w fun e w' => e = .returned (.int .i64 (Cs.to es j : Int)) ∧ Below w.heap.size w w' := by
  have hb0 : Below w.heap.size w (w.alloc (.cells #[.int .i64 (n : Int), .slice ao es.length ca] 24)) := (Below.refl _ _).alloc (Nat.le_refl _) _
  have hfew := hv.few
  obtain ⟨e, hee, hok, hpar⟩ := half_edge hv hj
  obtain ⟨b, o, rfl, c0, c1⟩ := (he.later hb0) (j / 2) e hee
  obtain ⟨jh, hjh⟩ : ∃ jh, jh = j / 2 := ⟨_, rfl⟩
  rw [← hjh] at c0 c1 hee
  have hj0 : (0 : Int) ≤ (j : Int) := by omega
  have htd : (j : Int).tdiv 2 = (jh : Int) := by rw [Int.tdiv_eq_ediv_of_nonneg hj0]; omega
  have htd2 : (j : Int) / 2 = (jh : Int) := by omega
  have hjd : j / 2 = jh := hjh.symm
  have hj2 : (0 : Int) ≤ (jh : Int) := by omega
  have hj3 : (jh : Int) < (es.length : Int) := by omega
  have HB0 := Nu.hid hb0
  rcases hpar with ⟨hm, hf, ht⟩ | ⟨hm, hf, ht⟩
  · have hm1 : (j : Int).tmod 2 = 0 := by rw [Int.tmod_eq_emod_of_nonneg hj0]; omega
    have hm2 : (j : Int) % 2 = 0 := by omega
    rw [ht]
    clear he hv hok hee hb0 hf ht hjh hm
    go_enter Try.func24, Try.ntmps24
    go_wp2
    go_ret
    exact ⟨rfl, HB0.out⟩
  · have hm1 : (j : Int).tmod 2 = 1 := by rw [Int.tmod_eq_emod_of_nonneg hj0]; omega
    have hm2 : (j : Int) % 2 = 1 := by omega
    rw [ht]
    clear he hv hok hee hb0 hf ht hjh hm
    go_enter Try.func24, Try.ntmps24
    go_wp2
    go_ret
    exact ⟨rfl, HB0.out⟩

set_option maxRecDepth 100000 in
set_option maxHeartbeats 4000000 in
theorem beginsAt_any (n : Nat) (ao : Option Addr) (ca : Nat) (es : List (Int × Int)) (j : Nat) (w : World) (he : EdgesAt w ao es) (hv : Si.Val n es) (hj : j < 2 * es.length) :
    Calls Try.prog 49 #[.agg #[.int .i64 (n : Int), .slice ao es.length ca], .int .i64 (j : Int)] w fun e w' => e = .returned (.int .i64 (Cs.fr es j : Int)) ∧ Below w.heap.size w w' := by
  have hb0 : Below w.heap.size w (w.alloc (.cells #[.int .i64 (n : Int), .slice ao es.length ca] 24)) := (Below.refl _ _).alloc (Nat.le_refl _) _
  have hfew := hv.few
  have hxt := Cs.xor_twin j (by omega)
  have hfr := leadsTo_any n ao ca es (Cs.twin j) _ (he.later hb0) hv (Cs.twin_lt hj)
  rw [Cs.to_twin] at hfr
  have HFR := Nu.hid hfr
  have HB0 := Nu.hid hb0
  clear he hv hb0 hfr
  go_enter Try.func49, Try.ntmps49
  go_wp2_with (go_at_call 24; refine HFR.out.mono ?_; rintro e w1 ⟨rfl, hb1⟩)
  go_ret
  exact ⟨rfl, HB0.out.trans (hb1.mono HB0.out.size)⟩

set_option maxRecDepth 100000 in
set_option maxHeartbeats 4000000 in
theorem leaves_any (n : Nat) (ao : Option Addr) (ca : Nat) (es : List (Int × Int)) (h : Int) (v : Nat) (w : World) (he : EdgesAt w ao es) (hv : Si.Val n es) :
    Calls Try.prog 50 #[.agg #[.int .i64 (n : Int), .slice ao es.length ca], .int .i64 h, .int .i64 (v : Int)] w fun e w' => e = .returned (.bool (Ro.lv es h v)) ∧ Below w.heap.size w w' := by
  have hb0 : Below w.heap.size w (w.alloc (.cells #[.int .i64 (n : Int), .slice ao es.length ca] 24)) := (Below.refl _ _).alloc (Nat.le_refl _) _
  have hfew := hv.few
  have hin := fun j hj => beginsAt_any n ao ca es j _ (he.later hb0) hv hj
  have HIN := Nu.hid hin
  have HB0 := Nu.hid hb0
  clear he hv hb0 hin
  have hmul : IntKind.i64.wrap (2 * (es.length : Int)) = 2 * (es.length : Int) := by rw [IntKind.wrap_i64]; omega
  by_cases h0 : 0 ≤ h
  · by_cases h1 : h < 2 * (es.length : Int)
    · obtain ⟨j, rfl⟩ : ∃ j : Nat, h = (j : Int) := ⟨h.toNat, by omega⟩
      have hj : j < 2 * es.length := by omega
      have hlv : Ro.lv es (j : Int) v = ((Cs.fr es j : Int) == (v : Int)) := by
        unfold Ro.lv
        rw [Cs.frI_in hj, decide_eq_true h0, decide_eq_true h1]
        rfl
      rw [hlv]
      have HJ := Nu.hid (HIN.out j hj)
      clear hlv hmul
      go_enter Try.func50, Try.ntmps50
      go_wp2_with (go_at_call 49; refine HJ.out.mono ?_; rintro e w1 ⟨rfl, hb1⟩)
      go_ret
      exact ⟨rfl, HB0.out.trans (hb1.mono HB0.out.size)⟩
    · have hlv : Ro.lv es h v = false := by simp [Ro.lv, h1]
      rw [hlv]
      clear hlv
      go_enter Try.func50, Try.ntmps50
      go_wp2
      go_ret
      exact ⟨rfl, HB0.out⟩
  · have hlv : Ro.lv es h v = false := by simp [Ro.lv, h0]
    rw [hlv]
    clear hlv
    go_enter Try.func50, Try.ntmps50
    go_wp2
    go_ret
    exact ⟨rfl, HB0.out⟩

end Go.Proofs.Ytjlfdkeklilafab

/-
  A block of numbers that a call makes.
-/
namespace Go.Proofs.Ytjlfdkeklilafab
open Go.RowKit

theorem Try.infoNum : (Try.prog.info? 3).map (fun i => (i.zero, i.size, i.bytes)) = some (some (.int .i64 0), 1, 8) := by kernel_rfl

/-- Block g holds just the numbers l. -/
def IntsBlk (w : World) (g : Nat) (l : List Int) : Prop := w.heap[g]? = some (.cells (l.map (Value.int .i64)).toArray 3 (0, 0))

section
variable {w w' : World} {g : Nat} {l : List Int}
theorem IntsBlk.lt (h : IntsBlk w g l) : g < w.heap.size := lt_of_block h
theorem IntsBlk.cell (h : IntsBlk w g l) {i : Nat} {x : Int} (hx : l[i]? = some x) : w.cell? ⟨g, i, none⟩ = some (.int .i64 x) := by
  unfold IntsBlk at h
  simp [World.cell?, h, hx]
theorem IntsBlk.free (h : IntsBlk w g l) (i : Nat) : w.frozen? ⟨g, i, none⟩ = false := by
  unfold IntsBlk at h
  simp [World.frozen?, h]
theorem IntsBlk.set (h : IntsBlk w g l) (i : Nat) (x : Int) : IntsBlk (w.setCell ⟨g, i, none⟩ (.int .i64 x)) g (l.set i x) := by
  unfold IntsBlk at h ⊢
  rw [heap_setCell_same w g i _ _ _ h]
  simp [List.map_set]
theorem IntsBlk.below {B : Nat} (h : IntsBlk w g l) (hb : Below B w w') (hB : g < B) : IntsBlk w' g l := (hb.block g hB).trans h
theorem IntsBlk.later (h : IntsBlk w g l) (hb : Below w.heap.size w w') : IntsBlk w' g l := (hb.block g h.lt).trans h
theorem IntsBlk.alloc (h : IntsBlk w g l) (o : Obj) : IntsBlk (w.alloc o) g l := (Below.heap_alloc w o g h.lt).trans h
end

theorem made_zeros (n : Nat) : (madeCells #[.int .i64 0] n).toList = (List.replicate n (0 : Int)).map (Value.int .i64) := by
  rw [toList_madeCells_one, List.map_replicate]

/-- A list that was made at its full length. -/
theorem ints_of_row {w : World} {B g n : Nat} {xs : List Int} (h : w.ownsRow B 3 1 (.slice (some ⟨g, 0, none⟩) n n) n (xs.map (Value.int .i64))) : IntsBlk w g xs := by
  rcases h.2 with ⟨h, _⟩ | ⟨g', cap, cur, e, _, hh, _, _, hs, ht⟩
  · cases h
  cases e
  have e1 : cur.toList = xs.map (Value.int .i64) := by
    rw [← ht]
    exact (List.take_of_length_le (by simp; omega)).symm
  unfold IntsBlk
  rw [hh, ← e1]

end Go.Proofs.Ytjlfdkeklilafab

/-
  Lists of ints in blocks of their own; which blocks a call writes.
-/
namespace Go.Proofs.Ytjlfdkeklilafab
open Go.RowKit

/-- Block g begins with the numbers l. -/
def IntsIn (w : World) (g : Nat) (l : List Int) : Prop := ∃ rest : List Value, w.heap[g]? = some (.cells (l.map (Value.int .i64) ++ rest).toArray 3 (0, 0))

section
variable {w w' : World} {g : Nat} {l : List Int}
theorem IntsIn.lt (h : IntsIn w g l) : g < w.heap.size := by
  obtain ⟨rest, h⟩ := h
  exact lt_of_block h
theorem IntsIn.cell (h : IntsIn w g l) {i : Nat} {x : Int} (hx : l[i]? = some x) : w.cell? ⟨g, i, none⟩ = some (.int .i64 x) := by
  obtain ⟨rest, h⟩ := h
  have hl := (List.getElem?_eq_some_iff.1 hx).1
  have : (l.map (Value.int .i64) ++ rest)[i]? = some (.int .i64 x) := by
    rw [List.getElem?_append_left (by simpa using hl), List.getElem?_map, hx]
    rfl
  simp [World.cell?, h]
  simpa using this
theorem IntsIn.free (h : IntsIn w g l) (i : Nat) : w.frozen? ⟨g, i, none⟩ = false := by
  obtain ⟨rest, h⟩ := h
  simp [World.frozen?, h]
theorem IntsIn.set (h : IntsIn w g l) {i : Nat} (hi : i < l.length) (x : Int) : IntsIn (w.setCell ⟨g, i, none⟩ (.int .i64 x)) g (l.set i x) := by
  obtain ⟨rest, h⟩ := h
  refine ⟨rest, ?_⟩
  rw [heap_setCell_same w g i _ _ _ h]
  have e : ((l.map (Value.int .i64) ++ rest).toArray.setIfInBounds i (.int .i64 x)) = ((l.set i x).map (Value.int .i64) ++ rest).toArray := by
    rw [List.setIfInBounds_toArray, List.set_append_left _ _ (by simpa using hi), List.map_set]
  rw [e]
theorem IntsIn.other (h : IntsIn w g l) {b i : Nat} (hb : g ≠ b) (x : Value) : IntsIn (w.setCell ⟨b, i, none⟩ x) g l := by
  obtain ⟨rest, h⟩ := h
  exact ⟨rest, (heap_setCell_other w ⟨b, i, none⟩ g x hb).trans h⟩
theorem IntsIn.later (h : IntsIn w g l) (hb : Below w.heap.size w w') : IntsIn w' g l := by
  have hl := h.lt
  obtain ⟨rest, h⟩ := h
  exact ⟨rest, (hb.block g hl).trans h⟩
theorem IntsIn.alloc (h : IntsIn w g l) (o : Obj) : IntsIn (w.alloc o) g l := by
  have hl := h.lt
  obtain ⟨rest, h⟩ := h
  exact ⟨rest, (Below.heap_alloc w o g hl).trans h⟩
theorem IntsIn.drew (h : IntsIn w g l) : IntsIn w.drew g l := h
theorem IntsIn.drewN (h : IntsIn w g l) (k : Nat) : IntsIn (w.drewN k) g l := h
theorem IntsBlk.ins (h : IntsBlk w g l) : IntsIn w g l := ⟨[], by rw [List.append_nil]; exact h⟩
end

/-- A row of one's own as a block of ints. -/
theorem ints_in_row {w : World} {B g n c : Nat} {xs : List Int} (h : w.ownsRow B 3 1 (.slice (some ⟨g, 0, none⟩) n c) n (xs.map (Value.int .i64))) : IntsIn w g xs := by
  rcases h.2 with ⟨h, _⟩ | ⟨g', cap, cur, e, _, hh, _, _, hs, ht⟩
  · cases h
  cases e
  refine ⟨cur.toList.drop (n * 1), ?_⟩
  rw [← ht, List.take_append_drop]
  exact hh

/-- Only blocks of S are written, and new ones. -/
structure Wrote (S : Nat → Prop) (w w' : World) : Prop where
  os : w'.os = w.os
  tape : w'.tape = w.tape
  output : w'.output = w.output
  size : w.heap.size ≤ w'.heap.size
  block : ∀ k, k < w.heap.size → ¬ S k → w'.heap[k]? = w.heap[k]?

section
variable {S : Nat → Prop} {w w' w0 : World}
theorem Wrote.refl (S : Nat → Prop) (w : World) : Wrote S w w := ⟨rfl, rfl, rfl, Nat.le_refl _, fun _ _ _ => rfl⟩
theorem Wrote.trans (h : Wrote S w0 w) (k : Wrote S w w') : Wrote S w0 w' :=
  ⟨k.os.trans h.os, k.tape.trans h.tape, k.output.trans h.output, Nat.le_trans h.size k.size, fun i hi hn => (k.block i (Nat.lt_of_lt_of_le hi h.size) hn).trans (h.block i hi hn)⟩
theorem Wrote.setCell (h : Wrote S w0 w) {b i : Nat} (hb : S b) (x : Value) : Wrote S w0 (w.setCell ⟨b, i, none⟩ x) :=
  ⟨h.os, h.tape, h.output, by simpa using h.size, fun k hk hn => (heap_setCell_other w ⟨b, i, none⟩ k x (fun e => hn (by rw [e]; exact hb))).trans (h.block k hk hn)⟩
theorem Wrote.drew (h : Wrote S w0 w) : Wrote S w0 w.drew := ⟨h.os, h.tape, h.output, h.size, h.block⟩
theorem Wrote.drewN (h : Wrote S w0 w) (k : Nat) : Wrote S w0 (w.drewN k) := ⟨h.os, h.tape, h.output, h.size, h.block⟩
theorem Wrote.later (h : Wrote S w0 w) (hb : Below w.heap.size w w') : Wrote S w0 w' :=
  ⟨hb.os.trans h.os, hb.tape.trans h.tape, hb.output.trans h.output, Nat.le_trans h.size hb.size, fun k hk hn => (hb.block k (Nat.lt_of_lt_of_le hk h.size)).trans (h.block k hk hn)⟩
theorem Wrote.alloc (h : Wrote S w0 w) (o : Obj) : Wrote S w0 (w.alloc o) := h.later ((Below.refl _ _).alloc (Nat.le_refl _) o)
theorem Wrote.below {B : Nat} (h : Wrote S w w') (hB : B ≤ w.heap.size) (hS : ∀ k, S k → B ≤ k) : Below B w w' :=
  ⟨h.os, h.tape, h.output, h.size, fun k hk => h.block k (Nat.lt_of_lt_of_le hk hB) (fun hs => by have := hS k hs; omega)⟩
theorem Wrote.ints {g : Nat} {l : List Int} (h : Wrote S w w') (hi : IntsIn w g l) (hg : ¬ S g) : IntsIn w' g l := by
  have hl := hi.lt
  obtain ⟨rest, hi⟩ := hi
  exact ⟨rest, (h.block g hl hg).trans hi⟩
theorem Wrote.mono {S' : Nat → Prop} (h : Wrote S w w') (hS : ∀ k, k < w.heap.size → S k → S' k) : Wrote S' w w' :=
  ⟨h.os, h.tape, h.output, h.size, fun k hk hn => h.block k hk (fun hs => hn (hS k hk hs))⟩
end

end Go.Proofs.Ytjlfdkeklilafab

/-
  Numbers that lie at an address.
-/
namespace Go.Proofs.Ytjlfdkeklilafab
open Go.RowKit

/-- The numbers l lie at ao. -/
def IntsAt (w : World) (ao : Option Addr) (l : List Int) : Prop := ∀ (j : Nat) (x : Int), l[j]? = some x → ∃ b o : Nat, ao = some ⟨b, o, none⟩ ∧ w.cell? ⟨b, o + j, none⟩ = some (.int .i64 x)

theorem IntsAt.later {w w' : World} {ao : Option Addr} {l : List Int} (h : IntsAt w ao l) (hb : Below w.heap.size w w') : IntsAt w' ao l := fun j x hj => by
  obtain ⟨b, o, e, h0⟩ := h j x hj
  exact ⟨b, o, e, (hb.cell (p := ⟨b, o + j, none⟩) (block_lt_of_cell h0)).trans h0⟩

theorem IntsAt.nil (w : World) (ao : Option Addr) : IntsAt w ao [] := fun j p hj => by simp at hj

theorem IntsBlk.at {w : World} {g : Nat} {l : List Int} (h : IntsBlk w g l) : IntsAt w (some ⟨g, 0, none⟩) l := fun j x hj => ⟨g, 0, rfl, by rw [Nat.zero_add]; exact h.cell hj⟩

end Go.Proofs.Ytjlfdkeklilafab

/-
  Lists of ints of one's own.
-/
namespace Go.Proofs.Ytjlfdkeklilafab
open Go.RowKit

/-- v is a list of the ints l, in memory of its own, laid since block B. -/
def OwnZ (w : World) (B : Nat) (v : Value) (l : List Int) : Prop := w.ownsRow B 3 1 v l.length (l.map (Value.int .i64))

section
variable {w w' : World} {B : Nat} {v : Value} {l : List Int}
theorem OwnZ.nil (w : World) (B : Nat) : OwnZ w B (.slice none 0 0) [] := World.ownsRow_nil _ _ _ _
theorem OwnZ.form (h : OwnZ w B v l) : ∃ ao cap, v = .slice ao l.length cap ∧ IntsAt w ao l ∧ (∀ x, ao = some x → B ≤ x.block ∧ x.block < w.heap.size) := by
  rcases h.2 with ⟨rfl, h0⟩ | ⟨g, cap, cur, rfl, hB, hh, _⟩
  · refine ⟨none, 0, by rw [h0], fun j x hj => ?_, fun x hx => by cases hx⟩
    have := (List.getElem?_eq_some_iff.1 hj).1
    omega
  · refine ⟨_, _, rfl, fun j x hj => ?_, fun x hx => by cases hx; exact ⟨hB, lt_of_block hh⟩⟩
    refine ⟨g, 0, rfl, ?_⟩
    have := World.ownsRow.cells h (g := g) rfl j (.int .i64 x) (by rw [List.getElem?_map, hj]; rfl)
    have e : ((⟨g, 0, none⟩ : Addr).add j) = ⟨g, 0 + j, none⟩ := by
      by_cases h0 : j = 0 <;> simp [Addr.add, h0]
    rw [e] at this
    exact this
theorem OwnZ.same (h : OwnZ w B v l) (hb : ∀ g, v.ownBlock = some g → g < w.heap.size → w'.heap[g]? = w.heap[g]?) : OwnZ w' B v l := by
  refine ⟨h.1, ?_⟩
  rcases h.2 with h | ⟨g, cap, cur, e1, hgB, hh, hr⟩
  · exact .inl h
  · exact .inr ⟨g, cap, cur, e1, hgB, (hb g (by rw [e1]; rfl) (lt_of_block hh)).trans hh, hr⟩
theorem OwnZ.later (h : OwnZ w B v l) (hb : Below w.heap.size w w') : OwnZ w' B v l := h.same fun g _ hl => hb.block g hl
theorem OwnZ.lower {B' : Nat} (h : OwnZ w B v l) (hB : B' ≤ B) : OwnZ w B' v l := by
  refine ⟨h.1, ?_⟩
  rcases h.2 with h | ⟨g, cap, cur, e1, hgB, hr⟩
  · exact .inl h
  · exact .inr ⟨g, cap, cur, e1, Nat.le_trans hB hgB, hr⟩
theorem IntsBlk.own {g n : Nat} (h : IntsBlk w g l) (hB : B ≤ g) (hl : l.length = n) (hm : n ≤ 8388608) : OwnZ w B (.slice (some ⟨g, 0, none⟩) n n) l := by
  subst hl
  refine ⟨by simp, .inr ⟨g, _, _, rfl, hB, h, Nat.le_refl _, by unfold maxLen; omega, by simp, ?_⟩⟩
  rw [List.take_of_length_le (by simp)]
end

end Go.Proofs.Ytjlfdkeklilafab
