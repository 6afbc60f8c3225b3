/-
  The document's own Ends.
-/
import Derived.Test.YtmgjfakdjponoaaDoorSiRFind
namespace Go.Proofs.YtmgjfakdjponoaaDoor
open Go.RowKit Go.Sort

set_option maxRecDepth 100000 in
set_option maxHeartbeats 8000000 in
theorem rends_any (n : Int) (ao : Option Addr) (cap : Nat) (es : List (Int × Int)) (h : Int) (w : World) (he : EdgesAt w ao es) (hl : es.length ≤ 1152921504606846976) (hh : h ≤ 9223372036854775807) :
    Calls Tryd.prog 16 #[graphVal n ao es.length cap, .int .i64 h] w fun e w' => e = .returned (.tuple #[.int .i64 (Si.ends n es h).1, .int .i64 (Si.ends n es h).2.1, .bool (Si.ends n es h).2.2]) ∧ Below w.heap.size w w' := by
  have HE := Nu.hid he
  have hva := fun W (hb : Below w.heap.size w W) => rvalid_any n ao cap es W (he.later hb) (by omega)
  unfold graphVal at hva ⊢
  have HVA := Nu.hid hva
  clear he hva
  have hbw0 : Below w.heap.size w (w.alloc (.cells #[.int .i64 n, .slice ao es.length cap] 26)) := (Below.refl _ _).alloc (Nat.le_refl _) _
  have HBW0 := Nu.hid hbw0
  clear hbw0
  cases hv : Si.valid n es with
  | false =>
    have hs : Si.ends n es h = (0, 0, false) := by unfold Si.ends; rw [if_neg (by rw [hv]; simp)]
    rw [hs]
    rw [hv] at HVA
    clear hs
    go_enter Tryd.func16, Tryd.ntmps16
    go_wp2_with (go_at_call 21; refine (HVA.out _ HBW0.out).mono ?_; rintro e w' ⟨rfl, hb⟩; refine Hid.out ?_)
    refine Nu.hid ?_
    go_wp2
    go_ret3
    exact ⟨rfl, HBW0.out.trans (hb.mono HBW0.out.size)⟩
  | true =>
    rw [hv] at HVA
    by_cases h1 : h < 0
    · have hs : Si.ends n es h = (0, 0, false) := by unfold Si.ends; rw [if_neg (by omega)]
      rw [hs]
      clear hs
      go_enter Tryd.func16, Tryd.ntmps16
      go_wp2_with (go_at_call 21; refine (HVA.out _ HBW0.out).mono ?_; rintro e w' ⟨rfl, hb⟩; refine Hid.out ?_)
      refine Nu.hid ?_
      go_wp2
      go_ret3
      exact ⟨rfl, HBW0.out.trans (hb.mono HBW0.out.size)⟩
    obtain ⟨k, hk⟩ : ∃ k : Nat, h / 2 = k := ⟨(h / 2).toNat, by omega⟩
    have d1 : h.tdiv 2 = (k : Int) := by rw [Int.tdiv_eq_ediv_of_nonneg (by omega)]; exact hk
    have d2 : h / 2 = (k : Int) := hk
    have wk : IntKind.i64.wrap (k : Int) = (k : Int) := by simp [IntKind.wrap, IntKind.bits, IntKind.signed]; omega
    have hkb : (k : Int) ≤ 4611686018427387903 := by omega
    have hk0 : (0 : Int) ≤ (k : Int) := by omega
    by_cases h2 : k < es.length
    rotate_left
    · have hs : Si.ends n es h = (0, 0, false) := by unfold Si.ends; rw [if_neg (by omega)]
      rw [hs]
      have h2' : ¬ ((k : Int) < (es.length : Int)) := by omega
      clear hs hk h2
      go_enter Tryd.func16, Tryd.ntmps16
      go_wp2_with (go_at_call 21; refine (HVA.out _ HBW0.out).mono ?_; rintro e w' ⟨rfl, hb⟩; refine Hid.out ?_)
      refine Nu.hid ?_
      obtain ⟨-, g1, -⟩ := pair_cells ((hb.block _ (by simp)).trans (heap_alloc_new w (.cells #[.int .i64 n, .slice ao es.length cap] 26)))
      have HB := Nu.hid (HBW0.out.trans (hb.mono HBW0.out.size))
      clear hb
      go_wp2
      go_ret3
      exact ⟨rfl, HB.out⟩
    obtain ⟨p, hp⟩ : ∃ p, es[k]? = some p := ⟨_, List.getElem?_eq_getElem h2⟩
    have hgd : es.getD (h / 2).toNat (0, 0) = p := by
      rw [hk]
      simp [List.getD_eq_getElem?_getD, hp]
    have hs : Si.ends n es h = (if h % 2 = 1 then p.2 else p.1, if h % 2 = 1 then p.1 else p.2, true) := by
      unfold Si.ends
      rw [if_pos ⟨hv, by omega, by omega⟩, hgd]
      by_cases hm : h % 2 = 1
      · rw [if_pos hm, if_pos hm, if_pos hm]
      · rw [if_neg hm, if_neg hm, if_neg hm]
    rw [hs]
    have hfr := fun W (hb : Below w.heap.size w W) => from_any n ao cap es h k p W (HE.out.later hb) (by omega) hk hp (by omega)
    have hto := fun W (hb : Below w.heap.size w W) => to_any n ao cap es h k p W (HE.out.later hb) (by omega) hk hp (by omega)
    unfold graphVal at hfr hto
    generalize (if h % 2 = 1 then p.2 else p.1) = ra at hfr ⊢
    generalize (if h % 2 = 1 then p.1 else p.2) = rb at hto ⊢
    have HFR := Nu.hid hfr
    have HTO := Nu.hid hto
    have h2' : (k : Int) < (es.length : Int) := by omega
    clear hfr hto hs hgd hp hk
    go_enter Tryd.func16, Tryd.ntmps16
    go_wp2_with (go_at_call 21; refine (HVA.out _ HBW0.out).mono ?_; rintro e w' ⟨rfl, hb⟩; refine Hid.out ?_)
    refine Nu.hid ?_
    have hG := (hb.block _ (by simp)).trans (heap_alloc_new w (.cells #[.int .i64 n, .slice ao es.length cap] 26))
    obtain ⟨g0, g1, -⟩ := pair_cells hG
    have hsG := lt_of_block hG
    have HB := Nu.hid (HBW0.out.trans (hb.mono HBW0.out.size))
    have hbr : Below w'.heap.size w' w'.drew := (Below.refl _ _).drew
    have hf2 : ∀ W, (W.cell? ⟨w.heap.size, 0, none⟩ = some (.int .i64 n) ∧ W.cell? ⟨w.heap.size, 1, none⟩ = some (.slice ao es.length cap) ∧ Below w'.heap.size w' W) → Calls Tryd.prog 36 #[.agg #[.int .i64 n, .slice ao es.length cap], .int .i64 h] W fun e w2 => e = .returned (.int .i64 ra) ∧ (w2.cell? ⟨w.heap.size, 0, none⟩ = some (.int .i64 n) ∧ w2.cell? ⟨w.heap.size, 1, none⟩ = some (.slice ao es.length cap) ∧ Below w'.heap.size w' w2) := fun W hS => by
      refine (HFR.out W (HB.out.trans (hS.2.2.mono HB.out.size))).mono ?_
      rintro e w2 ⟨rfl, hb2⟩
      have hb3 := hS.2.2.trans (hb2.mono hS.2.2.size)
      exact ⟨rfl, (hb3.cell (p := ⟨w.heap.size, 0, none⟩) hsG).trans g0, (hb3.cell (p := ⟨w.heap.size, 1, none⟩) hsG).trans g1, hb3⟩
    have ht2 : ∀ W, (W.cell? ⟨w.heap.size, 0, none⟩ = some (.int .i64 n) ∧ W.cell? ⟨w.heap.size, 1, none⟩ = some (.slice ao es.length cap) ∧ Below w'.heap.size w' W) → Calls Tryd.prog 37 #[.agg #[.int .i64 n, .slice ao es.length cap], .int .i64 h] W fun e w2 => e = .returned (.int .i64 rb) ∧ (w2.cell? ⟨w.heap.size, 0, none⟩ = some (.int .i64 n) ∧ w2.cell? ⟨w.heap.size, 1, none⟩ = some (.slice ao es.length cap) ∧ Below w'.heap.size w' w2) := fun W hS => by
      refine (HTO.out W (HB.out.trans (hS.2.2.mono HB.out.size))).mono ?_
      rintro e w2 ⟨rfl, hb2⟩
      have hb3 := hS.2.2.trans (hb2.mono hS.2.2.size)
      exact ⟨rfl, (hb3.cell (p := ⟨w.heap.size, 0, none⟩) hsG).trans g0, (hb3.cell (p := ⟨w.heap.size, 1, none⟩) hsG).trans g1, hb3⟩
    have HF2 := Nu.hid hf2
    have HT2 := Nu.hid ht2
    clear hb hG hf2 ht2
    go_wp2_with fail
    go_region_held3 (fun w2 => w2.cell? ⟨w.heap.size, 0, none⟩ = some (.int .i64 n) ∧ w2.cell? ⟨w.heap.size, 1, none⟩ = some (.slice ao es.length cap) ∧ Below w'.heap.size w' w2)
      (first | assumption | exact ⟨g0, g1, hbr⟩)
      ((first
        | (go_at_call 36; refine (HF2.out _ (by assumption)).mono ?_; rintro e w2 ⟨rfl, hS⟩)
        | (go_at_call 37; refine (HT2.out _ (by assumption)).mono ?_; rintro e w2 ⟨rfl, hS⟩)))
    all_goals
      go_wp2
      go_ret3
      exact ⟨rfl, HB.out.trans (hS.2.2.mono HB.out.size)⟩

end Go.Proofs.YtmgjfakdjponoaaDoor
