/-
  Where a half-edge begins and ends, as the program answers.
-/
import Derived.Test.YtmgjfakdjponoabDoorSiValid
namespace Go.Proofs.YtmgjfakdjponoabDoor
open Go.RowKit Go.Sort

set_option maxRecDepth 100000 in
set_option maxHeartbeats 4000000 in
theorem ends_any (n : Int) (ao : Option Addr) (cap : Nat) (es : List (Int × Int)) (h : Int) (w : World) (he : EdgesAt w ao es) (hl : es.length ≤ 1152921504606846976) :
    Calls Tryd.prog 19 #[graphVal n ao es.length cap, .int .i64 h] w fun e w' => e = .returned (.tuple #[.int .i64 (Si.ends n es h).1, .int .i64 (Si.ends n es h).2.1, .bool (Si.ends n es h).2.2]) ∧ Below w.heap.size w w' := by
  have HE := Nu.hid he
  have w2 : IntKind.i64.wrap (2 * (es.length : Int)) = 2 * (es.length : Int) := by simp [IntKind.wrap, IntKind.bits, IntKind.signed]; omega
  have hva := fun W (hb : Below w.heap.size w W) => valid_any n ao cap es W (he.later hb) (by omega)
  unfold graphVal at hva ⊢
  have HVA := Nu.hid hva
  clear he hva
  by_cases h1 : h < 0
  · have hs : Si.ends n es h = (0, 0, false) := by unfold Si.ends; rw [if_neg (by omega)]
    rw [hs]
    go_enter Tryd.func19, Tryd.ntmps19
    go_wp2
    go_ret3
    exact ⟨rfl, (Below.refl _ _).alloc (Nat.le_refl _) _⟩
  · by_cases h2 : h < 2 * (es.length : Int)
    · cases hv : Si.valid n es with
      | false =>
        have hs : Si.ends n es h = (0, 0, false) := by unfold Si.ends; rw [if_neg (by rw [hv]; simp)]
        rw [hs]
        rw [hv] at HVA
        go_enter Tryd.func19, Tryd.ntmps19
        go_wp2_with (go_at_call 6; refine (HVA.out _ ((Below.refl _ _).alloc (Nat.le_refl _) _)).mono ?_; rintro e w' ⟨rfl, hb⟩; refine Hid.out ?_)
        refine Nu.hid ?_
        go_wp2
        go_ret3
        exact ⟨rfl, ((Below.refl _ _).alloc (Nat.le_refl _) _).trans (hb.mono (by simp))⟩
      | true =>
        rw [hv] at HVA
        obtain ⟨k, hk⟩ : ∃ k : Nat, h / 2 = k := ⟨(h / 2).toNat, by omega⟩
        have hkl : k < es.length := by omega
        obtain ⟨p, hp⟩ : ∃ p, es[k]? = some p := ⟨_, List.getElem?_eq_getElem hkl⟩
        have hgd : es.getD (h / 2).toNat (0, 0) = p := by
          rw [hk]
          simp [List.getD_eq_getElem?_getD, hp]
        have d1 : h.tdiv 2 = (k : Int) := by rw [Int.tdiv_eq_ediv_of_nonneg (by omega)]; exact hk
        have d2 : h.tmod 2 = h % 2 := Int.tmod_eq_emod_of_nonneg (by omega)
        have wk : IntKind.i64.wrap (k : Int) = (k : Int) := by simp [IntKind.wrap, IntKind.bits, IntKind.signed]; omega
        have hk0 : (0 : Int) ≤ (k : Int) := by omega
        have hk1 : (k : Int) < (es.length : Int) := by omega
        have HP := Nu.hid hp
        clear hp
        by_cases hm : h % 2 = 1
        · have hs : Si.ends n es h = (p.2, p.1, true) := by unfold Si.ends; rw [if_pos ⟨hv, by omega, h2⟩, if_pos hm, hgd]
          rw [hs]
          have d3 : h.tmod 2 = 1 := by omega
          clear d2 hgd hs hk
          go_enter Tryd.func19, Tryd.ntmps19
          go_wp2_with (go_at_call 6; refine (HVA.out _ ((Below.refl _ _).alloc (Nat.le_refl _) _)).mono ?_; rintro e w' ⟨rfl, hb⟩; refine Hid.out ?_)
          refine Nu.hid ?_
          have hbw : Below w.heap.size w w' := ((Below.refl _ _).alloc (Nat.le_refl _) _).trans (hb.mono (by simp))
          obtain ⟨g0, g1, -⟩ := pair_cells ((hb.block _ (by simp)).trans (heap_alloc_new w (.cells #[.int .i64 n, .slice ao es.length cap] 24)))
          obtain ⟨b, o, rfl, c0, c1⟩ := (HE.out.later hbw) k p HP.out
          have hbl : b < w'.heap.size := block_lt_of_cell c0
          have hsz := hbw.size
          have HBW := Nu.hid hbw
          clear hb hbw
          go_wp2
          go_region
          go_wp2
          go_ret3
          exact ⟨rfl, (HBW.out.alloc hsz _).drew⟩
        · have hs : Si.ends n es h = (p.1, p.2, true) := by unfold Si.ends; rw [if_pos ⟨hv, by omega, h2⟩, if_neg hm, hgd]
          rw [hs]
          have d3 : h.tmod 2 = 0 := by omega
          clear d2 hgd hs hk
          go_enter Tryd.func19, Tryd.ntmps19
          go_wp2_with (go_at_call 6; refine (HVA.out _ ((Below.refl _ _).alloc (Nat.le_refl _) _)).mono ?_; rintro e w' ⟨rfl, hb⟩; refine Hid.out ?_)
          refine Nu.hid ?_
          have hbw : Below w.heap.size w w' := ((Below.refl _ _).alloc (Nat.le_refl _) _).trans (hb.mono (by simp))
          obtain ⟨g0, g1, -⟩ := pair_cells ((hb.block _ (by simp)).trans (heap_alloc_new w (.cells #[.int .i64 n, .slice ao es.length cap] 24)))
          obtain ⟨b, o, rfl, c0, c1⟩ := (HE.out.later hbw) k p HP.out
          have hbl : b < w'.heap.size := block_lt_of_cell c0
          have hsz := hbw.size
          have HBW := Nu.hid hbw
          clear hb hbw
          go_wp2
          go_region
          go_wp2
          go_ret3
          exact ⟨rfl, (HBW.out.alloc hsz _).drew⟩
    · have hs : Si.ends n es h = (0, 0, false) := by unfold Si.ends; rw [if_neg (by omega)]
      rw [hs]
      go_enter Tryd.func19, Tryd.ntmps19
      go_wp2
      go_ret3
      exact ⟨rfl, (Below.refl _ _).alloc (Nat.le_refl _) _⟩

end Go.Proofs.YtmgjfakdjponoabDoor
