import Derived.Test.YtdhaaodalchpkaaMgD
import Derived.Test.YtdhaaodalchpkaaLwQ
import Derived.Test.YtdhaaodalchpkaaMgN
/-
  The document's own Find and Ends.
-/
namespace Go.Proofs.Ytdhaaodalchpkaa
open Go.RowKit Go.Sort

set_option maxRecDepth 100000 in
set_option maxHeartbeats 8000000 in
theorem rfind_any (n : Int) (ao : Option Addr) (cap : Nat) (es : List (Int × Int)) (t : Int × Int) (w : World) (he : EdgesAt w ao es) (hl : es.length ≤ 4611686018427387904) :
    Calls Try.prog 36 #[graphVal n ao es.length cap, edgeVal t] w fun e w' => (∃ r : Int, Si.IsFind n es t r ∧ e = .returned (.int .i64 r)) ∧ Below w.heap.size w w' := by
  have HE := Nu.hid he
  have hva := fun W (hb : Below w.heap.size w W) => rvalid_any n ao cap es W (he.later hb) hl
  unfold graphVal at hva ⊢
  unfold edgeVal
  have HVA := Nu.hid hva
  clear he hva
  have hbw0 : Below w.heap.size w ((w.alloc (.cells #[.int .i64 n, .slice ao es.length cap] 24)).alloc (.cells #[.int .i64 t.1, .int .i64 t.2] 57)) := ((Below.refl _ _).alloc (Nat.le_refl _) _).alloc (by simp) _
  have HBW0 := Nu.hid hbw0
  clear hbw0
  cases hv : Si.valid n es with
  | false =>
    rw [hv] at HVA
    have hnv : ¬ Si.Val n es := fun h => by rw [Si.valid_iff.2 h] at hv; cases hv
    go_enter Try.func36, Try.ntmps36
    go_wp2_with (go_at_call 18; refine (HVA.out _ HBW0.out).mono ?_; rintro e w' ⟨rfl, hb⟩; refine Hid.out ?_)
    refine Nu.hid ?_
    go_wp2
    go_ret
    exact ⟨⟨-1, .inr ⟨rfl, fun h => hnv h.1⟩, rfl⟩, HBW0.out.trans (hb.mono HBW0.out.size)⟩
  | true =>
    rw [hv] at HVA
    have hval := Si.valid_iff.1 hv
    have hfew := hval.few
    have HVAL := Nu.hid hval
    clear hval
    go_enter Try.func36, Try.ntmps36
    go_wp2_with (go_at_call 18; refine (HVA.out _ HBW0.out).mono ?_; rintro e w' ⟨rfl, hb⟩; refine Hid.out ?_)
    refine Nu.hid ?_
    have hbw : Below w.heap.size w w' := HBW0.out.trans (hb.mono HBW0.out.size)
    have hG : w'.heap[w.heap.size]? = some (.cells #[.int .i64 n, .slice ao es.length cap] 24 (0, 0)) := by
      refine (hb.block _ (by simp; omega)).trans ?_
      rw [Below.heap_alloc _ _ _ (by simp)]
      exact heap_alloc_new w _
    have hT : w'.heap[w.heap.size + 1]? = some (.cells #[.int .i64 t.1, .int .i64 t.2] 57 (0, 0)) := by
      refine (hb.block _ (by simp)).trans ?_
      have := heap_alloc_new (w.alloc (.cells #[.int .i64 n, .slice ao es.length cap] 24)) (.cells #[.int .i64 t.1, .int .i64 t.2] 57)
      simpa using this
    obtain ⟨g0, g1, -⟩ := pair_cells hG
    obtain ⟨t0, t1, -⟩ := pair_cells hT
    have hsT := lt_of_block hT
    have hsG := lt_of_block hG
    have HBW := Nu.hid hbw
    have hs0 : w.heap.size ≤ w'.heap.size := hbw.size
    clear hb hbw hG hT
    go_wp2
    go_loopw [6] (fun c wr => ∃ k : Nat, k ≤ es.length ∧ c = .int .i64 k ∧ (∀ j, j < k → es[j]? ≠ some t) ∧ Below w'.heap.size w' wr) (fun c _ => es.length - (intOf c).toNat)
    case atStart => exact ⟨0, Nat.zero_le _, rfl, fun j h => by omega, Below.refl _ _⟩
    case round =>
      obtain ⟨k, hk, rfl, hno, hb2⟩ := hrel
      have x0 := (hb2.cell (p := ⟨w.heap.size, 0, none⟩) hsG).trans g0
      have x1 := (hb2.cell (p := ⟨w.heap.size, 1, none⟩) hsG).trans g1
      have y0 := (hb2.cell (p := ⟨w.heap.size + 1, 0, none⟩) hsT).trans t0
      have y1 := (hb2.cell (p := ⟨w.heap.size + 1, 1, none⟩) hsT).trans t1
      have hsz : w'.heap.size ≤ wr.heap.size := hb2.size
      have hsG2 : w.heap.size < wr.heap.size := by omega
      have hsT2 : w.heap.size + 1 < wr.heap.size := by omega
      have HNO := Nu.hid hno
      have HB2 := Nu.hid hb2
      have HBWR := Nu.hid (HBW.out.trans (hb2.mono hs0))
      clear hno
      by_cases hlt : k < es.length
      · have hlti : (k : Int) < (es.length : Int) := by omega
        have hk0 : (0 : Int) ≤ (k : Int) := by omega
        obtain ⟨p, hp⟩ : ∃ p, es[k]? = some p := ⟨_, List.getElem?_eq_getElem hlt⟩
        obtain ⟨b, o, rfl, c0, c1⟩ := (HE.out.later HBWR.out) k p hp
        have hbl : b < wr.heap.size := block_lt_of_cell c0
        have HP := Nu.hid hp
        obtain ⟨p1, p2⟩ := p
        obtain ⟨s1, s2⟩ := t
        dsimp only at c0 c1 y0 y1 ⊢
        have X1 : ∀ D : LW wr, D.val.cell? ⟨w.heap.size, 1, none⟩ = some (.slice (some ⟨b, o, none⟩) es.length cap) := fun D => (D.h.cell (p := ⟨w.heap.size, 1, none⟩) hsG2).trans x1
        have Y0 : ∀ D : LW wr, D.val.cell? ⟨w.heap.size + 1, 0, none⟩ = some (.int .i64 s1) := fun D => (D.h.cell (p := ⟨w.heap.size + 1, 0, none⟩) hsT2).trans y0
        have Y1 : ∀ D : LW wr, D.val.cell? ⟨w.heap.size + 1, 1, none⟩ = some (.int .i64 s2) := fun D => (D.h.cell (p := ⟨w.heap.size + 1, 1, none⟩) hsT2).trans y1
        have C0 : ∀ D : LW wr, D.val.cell? ⟨b, o + k * 2, none⟩ = some (.int .i64 p1) := fun D => (D.h.cell (p := ⟨b, o + k * 2, none⟩) hbl).trans c0
        have C1 : ∀ D : LW wr, D.val.cell? ⟨b, o + k * 2 + 1, none⟩ = some (.int .i64 p2) := fun D => (D.h.cell (p := ⟨b, o + k * 2 + 1, none⟩) hbl).trans c1
        have hne := LW.any wr
        have HBD : Hid (∀ D : LW wr, Below w'.heap.size w' D.val ∧ Below w.heap.size w D.val) := fun D => ⟨HB2.out.trans (D.h.mono HB2.out.size), HBWR.out.trans (D.h.mono HBWR.out.size)⟩
        clear hp hb2 x0 y0 y1 c0 c1
        by_cases e1 : p1 = s1
        · have q1 : (p1 == s1) = true := by simp [e1]
          by_cases e2 : p2 = s2
          · have q2 : (p2 == s2) = true := by simp [e2]
            have hpt : (p1, p2) = (s1, s2) := by rw [e1, e2]
            have HPT := Nu.hid hpt
            clear e1 e2 hpt
            go_wp2_with fail
            refine wp_region_lw (by kernel_rfl) (by kernel_rfl) ?_
            repeat (go_big_quiet_step (fail))
            refine wpQuiet_nil ?_
            rintro _ ⟨D, rfl⟩
            go_wp2
            go_ret
            exact ⟨⟨k, .inl ⟨k, HVAL.out, by rw [HP.out, HPT.out], rfl⟩, rfl⟩, (HBD.out D).2⟩
          · have q2 : (p2 == s2) = false := by simp [e2]
            clear e1
            go_wp2_with fail
            refine wp_region_lw (by kernel_rfl) (by kernel_rfl) ?_
            repeat (go_big_quiet_step (fail))
            refine wpQuiet_nil ?_
            rintro _ ⟨D, rfl⟩
            go_wp2
            go_roundw
            case rel =>
              refine ⟨k + 1, by omega, by go_num, fun j hj h => ?_, (HBD.out D).1⟩
              by_cases hjk : j = k
              · subst hjk; rw [HP.out] at h; cases h; exact e2 rfl
              · exact HNO.out j (by omega) h
            case measure => simp [intOf]; omega
        · have q1 : (p1 == s1) = false := by simp [e1]
          go_wp2_with fail
          refine wp_region_lw (by kernel_rfl) (by kernel_rfl) ?_
          repeat (go_big_quiet_step (fail))
          refine wpQuiet_nil ?_
          rintro _ ⟨D, rfl⟩
          go_wp2
          go_roundw
          case rel =>
            refine ⟨k + 1, by omega, by go_num, fun j hj h => ?_, (HBD.out D).1⟩
            by_cases hjk : j = k
            · subst hjk; rw [HP.out] at h; cases h; exact e1 rfl
            · exact HNO.out j (by omega) h
          case measure => simp [intOf]; omega
      · have hd : ¬ ((k : Int) < (es.length : Int)) := by omega
        clear hb2
        go_wp2
        go_ret
        refine ⟨⟨-1, .inr ⟨rfl, fun h => ?_⟩, rfl⟩, HBWR.out⟩
        obtain ⟨j, hj⟩ := h.2
        exact HNO.out j (by have := (List.getElem?_eq_some_iff.1 hj).1; omega) hj

end Go.Proofs.Ytdhaaodalchpkaa

/-
  Layer 15, the laws' own: which edge a step goes by.
-/
namespace Go.Proofs.Ytdhaaodalchpkaa
open Go.RowKit Go.Sort

set_option maxRecDepth 100000 in
set_option maxHeartbeats 8000000 in
theorem on15_any (n : Int) (ao : Option Addr) (cap : Nat) (es : List (Int × Int)) (h : Nat) (w : World) (he : EdgesAt w ao es) (hv : Si.Val n es) (hh : h < 2 * es.length) :
    Calls Try.prog 17 #[.agg #[.int .i64 n, .slice ao es.length cap], .int .i64 (Cs.fr es h : Int), .int .i64 (Cs.to es h : Int)] w fun e w' => e = .returned (.int .i64 ((h / 2 : Nat) : Int)) ∧ Below w.heap.size w w' := by
  obtain ⟨W, hW⟩ : ∃ W, W = w.alloc (.cells #[.int .i64 n, .slice ao es.length cap] 24) := ⟨_, rfl⟩
  have hB0 : Below w.heap.size w W := by rw [hW]; exact (Below.refl _ _).alloc (Nat.le_refl _) _
  have g1 : W.heap[w.heap.size]? = some (.cells #[.int .i64 n, .slice ao es.length cap] 24 (0, 0)) := by rw [hW]; exact heap_alloc_new w _
  have hl : es.length ≤ 4611686018427387904 := by have := hv.few; omega
  have HF : ∀ t, es[h / 2]? = some t → Calls Try.prog 36 #[.agg #[.int .i64 n, .slice ao es.length cap], .agg #[.int .i64 t.1, .int .i64 t.2]] W fun e w' => e = .returned (.int .i64 ((h / 2 : Nat) : Int)) ∧ Below W.heap.size W w' := fun t ht => (rfind_any n ao cap es t W (he.later hB0) hl).mono (by
    rintro e w' ⟨⟨r, hr, rfl⟩, hb⟩
    have : r = ((h / 2 : Nat) : Int) := hr.same (.inl ⟨h / 2, hv, ht, rfl⟩)
    exact ⟨by rw [this], hb⟩)
  obtain ⟨q0, q1, -⟩ := pair_cells g1
  have HB0 := Nu.hid hB0
  have HW := Nu.hid hW
  rw [hW] at q0 q1
  rcases Ku.half_es hv hh with ⟨h1, h2⟩ | ⟨h1, h2⟩
  · have HF1 := Nu.hid (HF _ h2)
    generalize Cs.fr es h = a at *
    generalize Cs.to es h = b at *
    obtain ⟨x, hx⟩ : ∃ x, ((h / 2 : Nat) : Int) = x := ⟨_, rfl⟩
    rw [hx] at HF1 ⊢
    have t1 : ¬ ((b : Int) < (a : Int)) := by omega
    clear HF he hB0 g1 hW h1 h2 hx
    go_enter Try.func17, Try.ntmps17
    go_wp2_with (go_at_call 36; rw [← HW.out]; refine HF1.out.mono ?_; rintro e w1 ⟨rfl, hb1⟩; have HB1 := Nu.hid (HB0.out.trans (hb1.mono HB0.out.size)); clear hb1)
    go_ret
    exact ⟨rfl, HB1.out⟩
  · have HF1 := Nu.hid (HF _ h2)
    generalize Cs.fr es h = a at *
    generalize Cs.to es h = b at *
    obtain ⟨x, hx⟩ : ∃ x, ((h / 2 : Nat) : Int) = x := ⟨_, rfl⟩
    rw [hx] at HF1 ⊢
    have t1 : (b : Int) < (a : Int) := by omega
    clear HF he hB0 g1 hW h1 h2 hx
    go_enter Try.func17, Try.ntmps17
    go_wp2_with (go_at_call 36; rw [← HW.out]; refine HF1.out.mono ?_; rintro e w1 ⟨rfl, hb1⟩; have HB1 := Nu.hid (HB0.out.trans (hb1.mono HB0.out.size)); clear hb1)
    go_ret
    exact ⟨rfl, HB1.out⟩
end Go.Proofs.Ytdhaaodalchpkaa
