/-
  Whether a graph is valid, as the program asks it.
-/
import Derived.Test.YtdhaaodalchpkaaMgI
namespace Go.Proofs.Ytdhaaodalchpkaa
open Go.RowKit Go.Sort

namespace Si

/-- The first k edges are as a valid graph's; l is the one before. -/
def UpTo (n : Int) (es : List (Int × Int)) (k : Nat) (l : Int × Int) : Prop :=
  (∀ (j : Nat) (p : Int × Int), j < k → es[j]? = some p → ok n p) ∧ (∀ (j : Nat) (p q : Int × Int), j + 1 < k → es[j]? = some p → es[j + 1]? = some q → lt p q) ∧ ((k = 0 ∧ l = (0, 0)) ∨ ∃ k', k = k' + 1 ∧ es[k']? = some l)

theorem UpTo.start (n : Int) (es : List (Int × Int)) : UpTo n es 0 (0, 0) := ⟨fun j p h => by omega, fun j p q h => by omega, .inl ⟨rfl, rfl⟩⟩

theorem UpTo.step {n : Int} {es : List (Int × Int)} {k : Nat} {l p : Int × Int} (h : UpTo n es k l) (hp : es[k]? = some p) (ho : ok n p) (hl : lt l p) : UpTo n es (k + 1) p := by
  refine ⟨fun j q hj hq => ?_, fun j q r hj hq hr => ?_, .inr ⟨k, rfl, hp⟩⟩
  · by_cases hjk : j = k
    · subst hjk; rw [hp] at hq; cases hq; exact ho
    · exact h.1 j q (by omega) hq
  · by_cases hjk : j + 1 = k
    · subst hjk
      rw [hp] at hr
      cases hr
      rcases h.2.2 with ⟨h0, _⟩ | ⟨k', hk, hl'⟩
      · omega
      · obtain rfl : j = k' := by omega
        rw [hl'] at hq
        cases hq
        exact hl
    · exact h.2.1 j q r (by omega) hq hr

theorem UpTo.must {n : Int} {es : List (Int × Int)} {k : Nat} {l p : Int × Int} (h : UpTo n es k l) (hv : Val n es) (hp : es[k]? = some p) : ok n p ∧ lt l p := by
  have ho := hv.each k p hp
  refine ⟨ho, ?_⟩
  rcases h.2.2 with ⟨rfl, rfl⟩ | ⟨k', rfl, hl⟩
  · unfold ok at ho
    unfold lt
    dsimp only
    omega
  · exact hv.up k' l p hl hp

theorem UpTo.done {n : Int} {es : List (Int × Int)} {l : Int × Int} (h : UpTo n es es.length l) (h0 : 0 ≤ n) (h1 : n ≤ 1048576) (h2 : es.length ≤ 4194304) : Val n es := by
  have lim : ∀ (j : Nat) (p : Int × Int), es[j]? = some p → j < es.length := fun j p hj => by
    rcases Nat.lt_or_ge j es.length with hl | hl
    · exact hl
    · rw [List.getElem?_eq_none hl] at hj; cases hj
  exact ⟨h0, h1, h2, fun j p hj => h.1 j p (lim j p hj) hj, fun j p q hp hq => h.2.1 j p q (lim _ _ hq) hp hq⟩

end Si

theorem pair_cells {w : World} {b : Nat} {t : TypeId} {x y : Value} (h : w.heap[b]? = some (.cells #[x, y] t (0, 0))) : w.cell? ⟨b, 0, none⟩ = some x ∧ w.cell? ⟨b, 1, none⟩ = some y ∧ ∀ i, w.frozen? ⟨b, i, none⟩ = false := by
  refine ⟨by simp [World.cell?, h], by simp [World.cell?, h], fun i => by simp [World.frozen?, h]⟩

theorem pair_set {w : World} {b : Nat} {t : TypeId} {x y : Value} (h : w.heap[b]? = some (.cells #[x, y] t (0, 0))) (x' y' : Value) : ((w.setCell ⟨b, 0, none⟩ x').setCell ⟨b, 1, none⟩ y').heap[b]? = some (.cells #[x', y'] t (0, 0)) := by
  have h1 := heap_setCell_same w b 0 _ t x' h
  have h2 := heap_setCell_same _ b 1 _ t y' h1
  simpa using h2

theorem pair_set_other {w : World} {b k : Nat} (hk : k ≠ b) (x' y' : Value) : ((w.setCell ⟨b, 0, none⟩ x').setCell ⟨b, 1, none⟩ y').heap[k]? = w.heap[k]? := by
  rw [heap_setCell_other _ ⟨b, 1, none⟩ k y' hk, heap_setCell_other _ ⟨b, 0, none⟩ k x' hk]

set_option maxRecDepth 100000 in
set_option maxHeartbeats 4000000 in
theorem valid_any (n : Int) (ao : Option Addr) (cap : Nat) (es : List (Int × Int)) (w : World) (he : EdgesAt w ao es) (hl : es.length ≤ 4611686018427387904) :
    Calls Try.prog 54 #[graphVal n ao es.length cap] w fun e w' => e = .returned (.bool (Si.valid n es)) ∧ Below w.heap.size w w' := by
  have HE := Nu.hid he
  clear he
  unfold graphVal
  by_cases h1 : n < 0
  · have hv := Si.valid_no (n := n) (es := es) (fun h => by have := h.lo; omega)
    rw [hv]
    go_enter Try.func54, Try.ntmps54
    go_wp2
    go_ret
    exact ⟨rfl, (Below.refl _ _).alloc (Nat.le_refl _) _⟩
  · by_cases h2 : 1048576 < n
    · have hv := Si.valid_no (n := n) (es := es) (fun h => by have := h.hi; omega)
      rw [hv]
      go_enter Try.func54, Try.ntmps54
      go_wp2
      go_ret
      exact ⟨rfl, (Below.refl _ _).alloc (Nat.le_refl _) _⟩
    · by_cases h3 : 4194304 < (es.length : Int)
      · have hv := Si.valid_no (n := n) (es := es) (fun h => by have := h.few; omega)
        rw [hv]
        go_enter Try.func54, Try.ntmps54
        go_wp2
        go_ret
        exact ⟨rfl, (Below.refl _ _).alloc (Nat.le_refl _) _⟩
      · go_enter Try.func54, Try.ntmps54
        go_wp2
        go_loopw [23] (fun c wr => ∃ (k : Nat) (l : Int × Int), k ≤ es.length ∧ c = .int .i64 k ∧ Si.UpTo n es k l ∧ wr.heap[w.heap.size]? = some (.cells #[.int .i64 n, .slice ao es.length cap] 24 (0, 0)) ∧ wr.heap[w.heap.size + 1]? = some (.cells #[.int .i64 l.1, .int .i64 l.2] 57 (0, 0)) ∧ Below w.heap.size w wr) (fun c _ => es.length - (intOf c).toNat)
        case atStart =>
          refine ⟨0, (0, 0), Nat.zero_le _, rfl, Si.UpTo.start n es, ?_, ?_, ((Below.refl _ _).alloc (Nat.le_refl _) _).alloc (by simp) _⟩
          · rw [Below.heap_alloc _ _ _ (by simp)]
            exact heap_alloc_new w _
          · have := heap_alloc_new (w.alloc (.cells #[.int .i64 n, .slice ao es.length cap] 24)) (.cells #[.int .i64 0, .int .i64 0] 57)
            simpa using this
        case round =>
          obtain ⟨k, l, hk, rfl, hup, hgb, hlb, hb⟩ := hrel
          by_cases hlt : k < es.length
          · have hlti : (k : Int) < (es.length : Int) := by omega
            have hk0 : (0 : Int) ≤ (k : Int) := by omega
            obtain ⟨p, hp⟩ : ∃ p, es[k]? = some p := ⟨_, List.getElem?_eq_getElem hlt⟩
            obtain ⟨b, o, rfl, c0, c1⟩ := (HE.out.later hb) k p hp
            obtain ⟨g0, -, -⟩ := pair_cells hgb
            obtain ⟨l0, l1, lf⟩ := pair_cells hlb
            have hsz := lt_of_block hlb
            have hsz0 := lt_of_block hgb
            have hbl : b < wr.heap.size := block_lt_of_cell c0
            have HUP := Nu.hid hup
            have HP := Nu.hid hp
            have HGB := Nu.hid hgb
            have HLB := Nu.hid hlb
            have HB := Nu.hid hb
            clear hup hp hgb hlb hb
            by_cases q1 : p.1 < 0
            · have hv := Si.valid_no (n := n) (es := es) (fun h => by have := (HUP.out.must h HP.out).1.1; omega)
              go_wp2
              go_ret
              exact ⟨by first | rfl | exact congrArg (fun b => Ending.returned (.bool b)) hv.symm, HB.out.alloc (by omega) _⟩
            · by_cases q2 : p.1 < p.2
              · by_cases q3 : p.2 < n
                · have hca := fun W => compare_any l p W
                  unfold edgeVal at hca
                  have HCA := Nu.hid hca
                  clear hca
                  by_cases q4 : Si.lt l p
                  · have hcf := Si.cf_neg.2 q4
                    generalize Si.cf l p = r at HCA hcf
                    go_wp2_with (go_at_call 67; refine (HCA.out _).mono ?_; rintro e w' ⟨rfl, hgr⟩; refine Hid.out ?_)
                    refine Nu.hid ?_
                    obtain ⟨qn, os', rfl⟩ := hgr
                    have hb1 := grow_below (wr.alloc (.cells #[.int .i64 p.1, .int .i64 p.2] 57)) qn os'
                    have hb2 : Below wr.heap.size wr (grow ((wr.alloc (.cells #[.int .i64 p.1, .int .i64 p.2] 57)).drewN qn) os') := ((Below.refl _ _).alloc (Nat.le_refl _) _).trans (hb1.mono (by simp))
                    have hnew : (grow ((wr.alloc (.cells #[.int .i64 p.1, .int .i64 p.2] 57)).drewN qn) os').heap[wr.heap.size]? = some (.cells #[.int .i64 p.1, .int .i64 p.2] 57 (0, 0)) := (hb1.block _ (by simp)).trans (heap_alloc_new wr _)
                    generalize grow ((wr.alloc (.cells #[.int .i64 p.1, .int .i64 p.2] 57)).drewN qn) os' = w2 at hb2 hnew ⊢
                    have HLB2 := Nu.hid ((hb2.block _ hsz).trans HLB.out)
                    have HGB2 := Nu.hid ((hb2.block _ hsz0).trans HGB.out)
                    obtain ⟨m0, m1, mf⟩ := pair_cells HLB2.out
                    obtain ⟨n0, n1, -⟩ := pair_cells hnew
                    have hsz2 := hb2.size
                    have HB2 := Nu.hid (HB.out.trans (hb2.mono (by omega)))
                    clear hb1 hb2 hnew c0 c1 g0 l0 l1 lf
                    go_wp2
                    go_roundw
                    case rel => exact ⟨k + 1, p, by omega, by go_num, HUP.out.step HP.out ⟨by omega, q2, q3⟩ q4, (pair_set_other (by omega) _ _).trans HGB2.out, pair_set HLB2.out _ _, (HB2.out.setCell (by simp) _).setCell (by simp) _⟩
                    case measure => simp [intOf]; omega
                  · have hv := Si.valid_no (n := n) (es := es) (fun h => q4 (HUP.out.must h HP.out).2)
                    have hcf : ¬ (Si.cf l p < 0) := fun h => q4 (Si.cf_neg.1 h)
                    generalize Si.cf l p = r at HCA hcf
                    go_wp2_with (go_at_call 67; refine (HCA.out _).mono ?_; rintro e w' ⟨rfl, hgr⟩; refine Hid.out ?_)
                    refine Nu.hid ?_
                    obtain ⟨qn, os', rfl⟩ := hgr
                    have hb1 := grow_below (wr.alloc (.cells #[.int .i64 p.1, .int .i64 p.2] 57)) qn os'
                    generalize grow ((wr.alloc (.cells #[.int .i64 p.1, .int .i64 p.2] 57)).drewN qn) os' = w2 at hb1 ⊢
                    have HB2 := Nu.hid ((HB.out.alloc (by omega) _).trans (hb1.mono (by simp; omega)))
                    clear hb1
                    go_wp2
                    go_ret
                    exact ⟨by first | rfl | exact congrArg (fun b => Ending.returned (.bool b)) hv.symm, HB2.out⟩
                · have hv := Si.valid_no (n := n) (es := es) (fun h => by have := (HUP.out.must h HP.out).1.2.2; omega)
                  go_wp2
                  go_ret
                  exact ⟨by first | rfl | exact congrArg (fun b => Ending.returned (.bool b)) hv.symm, HB.out.alloc (by omega) _⟩
              · have hv := Si.valid_no (n := n) (es := es) (fun h => by have := (HUP.out.must h HP.out).1.2.1; omega)
                go_wp2
                go_ret
                exact ⟨by first | rfl | exact congrArg (fun b => Ending.returned (.bool b)) hv.symm, HB.out.alloc (by omega) _⟩
          · obtain rfl : k = es.length := by omega
            have hv := Si.valid_iff.2 (hup.done (by omega) (by omega) (by omega))
            have HB := Nu.hid hb
            clear hb hup hgb hlb
            go_wp2
            go_ret
            exact ⟨by first | rfl | exact congrArg (fun b => Ending.returned (.bool b)) hv.symm, HB.out⟩

end Go.Proofs.Ytdhaaodalchpkaa
