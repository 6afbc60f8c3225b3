/-
  The document's own Find and Ends.
-/
import Derived.Test.YtmgjfakdjponoaaDoorSiRValid
namespace Go.Proofs.YtmgjfakdjponoaaDoor
open Go.RowKit Go.Sort

set_option maxRecDepth 100000 in
set_option maxHeartbeats 8000000 in
theorem rfind_any (n : Int) (ao : Option Addr) (cap : Nat) (es : List (Int × Int)) (t : Int × Int) (w : World) (he : EdgesAt w ao es) (hl : es.length ≤ 4611686018427387904) :
    Calls Tryd.prog 23 #[graphVal n ao es.length cap, edgeVal t] w fun e w' => (∃ r : Int, Si.IsFind n es t r ∧ e = .returned (.int .i64 r)) ∧ Below w.heap.size w w' := by
  have HE := Nu.hid he
  have hva := fun W (hb : Below w.heap.size w W) => rvalid_any n ao cap es W (he.later hb) hl
  unfold graphVal at hva ⊢
  unfold edgeVal
  have HVA := Nu.hid hva
  clear he hva
  have hbw0 : Below w.heap.size w ((w.alloc (.cells #[.int .i64 n, .slice ao es.length cap] 26)).alloc (.cells #[.int .i64 t.1, .int .i64 t.2] 36)) := ((Below.refl _ _).alloc (Nat.le_refl _) _).alloc (by simp) _
  have HBW0 := Nu.hid hbw0
  clear hbw0
  cases hv : Si.valid n es with
  | false =>
    rw [hv] at HVA
    have hnv : ¬ Si.Val n es := fun h => by rw [Si.valid_iff.2 h] at hv; cases hv
    go_enter Tryd.func23, Tryd.ntmps23
    go_wp2_with (go_at_call 21; refine (HVA.out _ HBW0.out).mono ?_; rintro e w' ⟨rfl, hb⟩; refine Hid.out ?_)
    refine Nu.hid ?_
    go_wp2
    go_ret
    exact ⟨⟨-1, .inr ⟨rfl, fun h => hnv h.1⟩, rfl⟩, HBW0.out.trans (hb.mono HBW0.out.size)⟩
  | true =>
    rw [hv] at HVA
    have hval := Si.valid_iff.1 hv
    have hfew := hval.few
    have HVAL := Nu.hid hval
    clear hval
    go_enter Tryd.func23, Tryd.ntmps23
    go_wp2_with (go_at_call 21; refine (HVA.out _ HBW0.out).mono ?_; rintro e w' ⟨rfl, hb⟩; refine Hid.out ?_)
    refine Nu.hid ?_
    have hbw : Below w.heap.size w w' := HBW0.out.trans (hb.mono HBW0.out.size)
    have hG : w'.heap[w.heap.size]? = some (.cells #[.int .i64 n, .slice ao es.length cap] 26 (0, 0)) := by
      refine (hb.block _ (by simp; omega)).trans ?_
      rw [Below.heap_alloc _ _ _ (by simp)]
      exact heap_alloc_new w _
    have hT : w'.heap[w.heap.size + 1]? = some (.cells #[.int .i64 t.1, .int .i64 t.2] 36 (0, 0)) := by
      refine (hb.block _ (by simp)).trans ?_
      have := heap_alloc_new (w.alloc (.cells #[.int .i64 n, .slice ao es.length cap] 26)) (.cells #[.int .i64 t.1, .int .i64 t.2] 36)
      simpa using this
    obtain ⟨g0, g1, -⟩ := pair_cells hG
    obtain ⟨t0, t1, -⟩ := pair_cells hT
    have hsT := lt_of_block hT
    have hsG := lt_of_block hG
    have HBW := Nu.hid hbw
    have hs0 : w.heap.size ≤ w'.heap.size := hbw.size
    clear hb hbw hG hT
    go_wp2
    go_loopw [6] (fun c wr => ∃ k : Nat, k ≤ es.length ∧ c = .int .i64 k ∧ (∀ j, j < k → es[j]? ≠ some t) ∧ Below w'.heap.size w' wr) (fun c _ => es.length - (intOf c).toNat)
    case atStart => exact ⟨0, Nat.zero_le _, rfl, fun j h => by omega, Below.refl _ _⟩
    case round =>
      obtain ⟨k, hk, rfl, hno, hb2⟩ := hrel
      have x0 := (hb2.cell (p := ⟨w.heap.size, 0, none⟩) hsG).trans g0
      have x1 := (hb2.cell (p := ⟨w.heap.size, 1, none⟩) hsG).trans g1
      have y0 := (hb2.cell (p := ⟨w.heap.size + 1, 0, none⟩) hsT).trans t0
      have y1 := (hb2.cell (p := ⟨w.heap.size + 1, 1, none⟩) hsT).trans t1
      have hsz : w'.heap.size ≤ wr.heap.size := hb2.size
      have hsG2 : w.heap.size < wr.heap.size := by omega
      have hsT2 : w.heap.size + 1 < wr.heap.size := by omega
      have HNO := Nu.hid hno
      have HB2 := Nu.hid hb2
      have HBWR := Nu.hid (HBW.out.trans (hb2.mono hs0))
      clear hno
      by_cases hlt : k < es.length
      · have hlti : (k : Int) < (es.length : Int) := by omega
        have hk0 : (0 : Int) ≤ (k : Int) := by omega
        obtain ⟨p, hp⟩ : ∃ p, es[k]? = some p := ⟨_, List.getElem?_eq_getElem hlt⟩
        obtain ⟨b, o, rfl, c0, c1⟩ := (HE.out.later HBWR.out) k p hp
        have hbl : b < wr.heap.size := block_lt_of_cell c0
        have HP := Nu.hid hp
        clear hp hb2
        by_cases e1 : p.1 = t.1
        · have q1 : (p.1 == t.1) = true := by simp [e1]
          by_cases e2 : p.2 = t.2
          · have q2 : (p.2 == t.2) = true := by simp [e2]
            have hpt : p = t := Prod.ext e1 e2
            have HPT := Nu.hid hpt
            clear e1 e2 hpt
            go_wp2_with fail
            go_quiet (fail)
            go_wp2
            go_ret
            exact ⟨⟨k, .inl ⟨k, HVAL.out, by rw [HP.out, HPT.out], rfl⟩, rfl⟩, below_drewN HBWR.out _⟩
          · have q2 : (p.2 == t.2) = false := by simp [e2]
            clear e1
            go_wp2_with fail
            go_quiet (fail)
            go_wp2
            go_roundw
            case rel =>
              refine ⟨k + 1, by omega, by go_num, fun j hj h => ?_, below_drewN HB2.out _⟩
              by_cases hjk : j = k
              · subst hjk; rw [HP.out] at h; cases h; exact e2 rfl
              · exact HNO.out j (by omega) h
            case measure => simp [intOf]; omega
        · have q1 : (p.1 == t.1) = false := by simp [e1]
          go_wp2_with fail
          go_quiet (fail)
          go_wp2
          go_roundw
          case rel =>
            refine ⟨k + 1, by omega, by go_num, fun j hj h => ?_, below_drewN HB2.out _⟩
            by_cases hjk : j = k
            · subst hjk; rw [HP.out] at h; cases h; exact e1 rfl
            · exact HNO.out j (by omega) h
          case measure => simp [intOf]; omega
      · have hd : ¬ ((k : Int) < (es.length : Int)) := by omega
        clear hb2
        go_wp2
        go_ret
        refine ⟨⟨-1, .inr ⟨rfl, fun h => ?_⟩, rfl⟩, HBWR.out⟩
        obtain ⟨j, hj⟩ := h.2
        exact HNO.out j (by have := (List.getElem?_eq_some_iff.1 hj).1; omega) hj

set_option maxHeartbeats 4000000 in
theorem from_any (n : Int) (ao : Option Addr) (cap : Nat) (es : List (Int × Int)) (h : Int) (k : Nat) (p : Int × Int) (w : World) (he : EdgesAt w ao es) (h0 : 0 ≤ h) (hk : h / 2 = (k : Int)) (hp : es[k]? = some p) (hl : es.length ≤ 4611686018427387904) :
    Calls Tryd.prog 36 #[graphVal n ao es.length cap, .int .i64 h] w fun e w' => e = .returned (.int .i64 (if h % 2 = 1 then p.2 else p.1)) ∧ Below w.heap.size w w' := by
  have hkl : k < es.length := (List.getElem?_eq_some_iff.1 hp).1
  obtain ⟨b, o, rfl, c0, c1⟩ := he k p hp
  have hbl : b < w.heap.size := block_lt_of_cell c0
  have d1 : h.tdiv 2 = (k : Int) := by rw [Int.tdiv_eq_ediv_of_nonneg (by omega)]; exact hk
  have d2 : h.tmod 2 = h % 2 := Int.tmod_eq_emod_of_nonneg (by omega)
  have wk : IntKind.i64.wrap (k : Int) = (k : Int) := by simp [IntKind.wrap, IntKind.bits, IntKind.signed]; omega
  have hk0 : (0 : Int) ≤ (k : Int) := by omega
  have hk1 : (k : Int) < (es.length : Int) := by omega
  unfold graphVal
  clear hp he hk
  by_cases hm : h % 2 = 1
  · rw [if_pos hm]
    have d3 : h.tmod 2 = 1 := by omega
    clear d2
    go_enter Tryd.func36, Tryd.ntmps36
    go_wp2
    go_ret
    exact ⟨rfl, (Below.refl _ _).alloc (Nat.le_refl _) _⟩
  · rw [if_neg hm]
    have d3 : h.tmod 2 = 0 := by omega
    clear d2
    go_enter Tryd.func36, Tryd.ntmps36
    go_wp2
    go_ret
    exact ⟨rfl, (Below.refl _ _).alloc (Nat.le_refl _) _⟩

set_option maxHeartbeats 4000000 in
theorem to_any (n : Int) (ao : Option Addr) (cap : Nat) (es : List (Int × Int)) (h : Int) (k : Nat) (p : Int × Int) (w : World) (he : EdgesAt w ao es) (h0 : 0 ≤ h) (hk : h / 2 = (k : Int)) (hp : es[k]? = some p) (hl : es.length ≤ 4611686018427387904) :
    Calls Tryd.prog 37 #[graphVal n ao es.length cap, .int .i64 h] w fun e w' => e = .returned (.int .i64 (if h % 2 = 1 then p.1 else p.2)) ∧ Below w.heap.size w w' := by
  have hkl : k < es.length := (List.getElem?_eq_some_iff.1 hp).1
  obtain ⟨b, o, rfl, c0, c1⟩ := he k p hp
  have hbl : b < w.heap.size := block_lt_of_cell c0
  have d1 : h.tdiv 2 = (k : Int) := by rw [Int.tdiv_eq_ediv_of_nonneg (by omega)]; exact hk
  have d2 : h.tmod 2 = h % 2 := Int.tmod_eq_emod_of_nonneg (by omega)
  have wk : IntKind.i64.wrap (k : Int) = (k : Int) := by simp [IntKind.wrap, IntKind.bits, IntKind.signed]; omega
  have hk0 : (0 : Int) ≤ (k : Int) := by omega
  have hk1 : (k : Int) < (es.length : Int) := by omega
  unfold graphVal
  clear hp he hk
  by_cases hm : h % 2 = 1
  · rw [if_pos hm]
    have d3 : h.tmod 2 = 1 := by omega
    clear d2
    go_enter Tryd.func37, Tryd.ntmps37
    go_wp2
    go_ret
    exact ⟨rfl, (Below.refl _ _).alloc (Nat.le_refl _) _⟩
  · rw [if_neg hm]
    have d3 : h.tmod 2 = 0 := by omega
    clear d2
    go_enter Tryd.func37, Tryd.ntmps37
    go_wp2
    go_ret
    exact ⟨rfl, (Below.refl _ _).alloc (Nat.le_refl _) _⟩

end Go.Proofs.YtmgjfakdjponoaaDoor
