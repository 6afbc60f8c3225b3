/-
  The document's Copy of a certificate: the edges' copy, laid into a box, in whatever order.
-/
import Derived.Test.YtfjgmbimapkabaaDoorAnyV
import Derived.Test.YtfjgmbimapkabaaDoorRunCpE
import Derived.Test.YtfjgmbimapkabaaDoorMg15
namespace Go.Proofs.YtfjgmbimapkabaaDoor
open Go.RowKit

theorem blk_later17 {w w' : World} {b : Nat} {o : Obj} (h : w.heap[b]? = some o) (hb : Below w.heap.size w w') : w'.heap[b]? = some o := (hb.block b (Array.getElem?_eq_some_iff.1 h).1).trans h

/-- Operations: 0, 1 the kind; 2 an empty list; 3, 4 the edges; 5 their copy; 6 the certificate; 7 the box; 8 it is stored. -/
structure CyS (w : World) (C : Nat) (pl : Bool) (eo : Option Addr) (ce : Nat) (es : List (Int × Int)) (L : Nat → Bool) (ρ : Nat → Value) (W : World) (b : Nat) (a : Option Addr) (c H : Nat) (x y z : Value) : Prop where
  low : Below w.heap.size w W
  v0 : L 0 = true → ρ 0 = .pointer (some ⟨C, 0, none⟩)
  v1 : L 1 = true → ρ 1 = .bool pl
  v2 : L 2 = true → ρ 2 = .slice (some ⟨b, 0, none⟩) 0 0
  e2 : L 2 = true → L 5 = false → w.heap.size ≤ b ∧ W.heap[b]? = some (.cells #[] 55 (0, 0))
  v3 : L 3 = true → ρ 3 = .pointer (some ⟨C, 2, none⟩)
  v4 : L 4 = true → ρ 4 = .slice eo es.length ce
  v5 : L 5 = true → ρ 5 = .slice a es.length c
  e5 : L 5 = true → OwnE W w.heap.size (.slice a es.length c) es
  v6 : L 6 = true → ρ 6 = .agg #[.bool pl, .slice none 0 0, .slice a es.length c]
  v7 : L 7 = true → ρ 7 = .pointer (some ⟨H, 0, none⟩)
  e7 : L 7 = true → w.heap.size ≤ H ∧ W.heap[H]? = some (.cells #[x, y, z] 27 (0, 0))
  f7 : L 5 = true → L 7 = true → (Value.slice a es.length c).ownBlock ≠ some H
  e8 : L 8 = true → x = .bool pl ∧ y = .slice none 0 0 ∧ z = .slice a es.length c
def CyC (w : World) (C : Nat) (pl : Bool) (eo : Option Addr) (ce : Nat) (es : List (Int × Int)) (L : Nat → Bool) (ρ : Nat → Value) (W : World) : Prop := ∃ b a c H x y z, CyS w C pl eo ce es L ρ W b a c H x y z
section
variable {w : World} {C : Nat} {pl : Bool} {eo : Option Addr} {ce : Nat} {es : List (Int × Int)} {L : Nat → Bool} {ρ : Nat → Value} {W W' : World}
open AnyOrd
theorem CyC.low (h : CyC w C pl eo ce es L ρ W) : Below w.heap.size w W := by
  obtain ⟨b, a, c, H, x, y, z, S⟩ := h
  exact S.low
theorem CyC.start (hb : Below w.heap.size w W) : CyC w C pl eo ce es (fun _ => false) ρ W :=
  ⟨0, none, 0, 0, undef, undef, undef, hb, nofun, nofun, nofun, nofun, nofun, nofun, nofun, nofun, nofun, nofun, nofun, nofun, nofun⟩
theorem CyC.zero (h : CyC w C pl eo ce es L ρ W) : CyC w C pl eo ce es (updB L 0) (upd ρ 0 (.pointer (some ⟨C, 0, none⟩))) W := by
  obtain ⟨b, a, c, H, x, y, z, S⟩ := h
  exact ⟨b, a, c, H, x, y, z, S.low, fun _ => rfl, S.v1, S.v2, S.e2, S.v3, S.v4, S.v5, S.e5, S.v6, S.v7, S.e7, S.f7, S.e8⟩
theorem CyC.one (h : CyC w C pl eo ce es L ρ W) : CyC w C pl eo ce es (updB L 1) (upd ρ 1 (.bool pl)) W := by
  obtain ⟨b, a, c, H, x, y, z, S⟩ := h
  exact ⟨b, a, c, H, x, y, z, S.low, S.v0, fun _ => rfl, S.v2, S.e2, S.v3, S.v4, S.v5, S.e5, S.v6, S.v7, S.e7, S.f7, S.e8⟩
theorem CyC.two (h : CyC w C pl eo ce es L ρ W) : CyC w C pl eo ce es (updB L 2) (upd ρ 2 (.slice (some ⟨W.heap.size, 0, none⟩) 0 0)) (W.alloc (.cells #[] 55)) := by
  obtain ⟨b, a, c, H, x, y, z, S⟩ := h
  have hb : Below W.heap.size W (W.alloc (.cells #[] 55)) := (Below.refl _ _).alloc (Nat.le_refl _) _
  exact ⟨W.heap.size, a, c, H, x, y, z, S.low.trans (hb.mono S.low.size), S.v0, S.v1, fun _ => rfl, fun _ _ => ⟨S.low.size, heap_alloc_new _ _⟩, S.v3, S.v4, S.v5, fun h => (S.e5 h).below hb (Nat.le_refl _), S.v6, S.v7, fun h => ⟨(S.e7 h).1, blk_later17 (S.e7 h).2 hb⟩, S.f7, S.e8⟩
theorem CyC.three (h : CyC w C pl eo ce es L ρ W) : CyC w C pl eo ce es (updB L 3) (upd ρ 3 (.pointer (some ⟨C, 2, none⟩))) W := by
  obtain ⟨b, a, c, H, x, y, z, S⟩ := h
  exact ⟨b, a, c, H, x, y, z, S.low, S.v0, S.v1, S.v2, S.e2, fun _ => rfl, S.v4, S.v5, S.e5, S.v6, S.v7, S.e7, S.f7, S.e8⟩
theorem CyC.four (h : CyC w C pl eo ce es L ρ W) : CyC w C pl eo ce es (updB L 4) (upd ρ 4 (.slice eo es.length ce)) W := by
  obtain ⟨b, a, c, H, x, y, z, S⟩ := h
  exact ⟨b, a, c, H, x, y, z, S.low, S.v0, S.v1, S.v2, S.e2, S.v3, fun _ => rfl, S.v5, S.e5, S.v6, S.v7, S.e7, S.f7, S.e8⟩
theorem CyC.five (h : CyC w C pl eo ce es L ρ W) {b' g' c' : Nat} (hb : Below W.heap.size W W') (h2 : L 2 = true) (h5 : L 5 = false) (h6 : L 6 = false) (h8 : L 8 = false) (hv : ρ 2 = .slice (some ⟨b', 0, none⟩) 0 0) (hg : g' = b' ∨ W.heap.size ≤ g') (ho : ∀ B, B ≤ b' → OwnE W' B (.slice (some ⟨g', 0, none⟩) es.length c') es) :
    CyC w C pl eo ce es (updB L 5) (upd ρ 5 (.slice (some ⟨g', 0, none⟩) es.length c')) W' := by
  obtain ⟨b, a, c, H, x, y, z, S⟩ := h
  have e := (S.v2 h2).symm.trans hv
  obtain rfl : b = b' := by simpa using e
  obtain ⟨hlo, hbb⟩ := S.e2 h2 h5
  refine ⟨b, some ⟨g', 0, none⟩, c', H, x, y, z, S.low.trans (hb.mono S.low.size), S.v0, S.v1, S.v2, fun _ h => (by cases h), S.v3, S.v4, fun _ => rfl, fun _ => ho _ hlo, fun h => ?_, S.v7, fun h => ⟨(S.e7 h).1, blk_later17 (S.e7 h).2 hb⟩, fun _ h7 e => ?_, fun h => ?_⟩
  · rw [show L 6 = true from h] at h6; cases h6
  · have hH := (S.e7 h7).2
    have hlt := lt_of_block hH
    obtain rfl : g' = H := by simpa [Value.ownBlock] using e
    rcases hg with rfl | hg
    · rw [hbb] at hH
      have := congrArg (fun o => match o with | some (Obj.cells _ t _) => t | _ => 27) hH
      revert this
      dsimp only
      decide
    · omega
  · rw [show L 8 = true from h] at h8; cases h8
theorem CyC.six (h : CyC w C pl eo ce es L ρ W) (h5 : L 5 = true) : ∃ a c, ρ 5 = .slice a es.length c ∧ CyC w C pl eo ce es (updB L 6) (upd ρ 6 (.agg #[.bool pl, .slice none 0 0, .slice a es.length c])) W := by
  obtain ⟨b, a, c, H, x, y, z, S⟩ := h
  exact ⟨a, c, S.v5 h5, b, a, c, H, x, y, z, S.low, S.v0, S.v1, S.v2, S.e2, S.v3, S.v4, S.v5, S.e5, fun _ => rfl, S.v7, S.e7, S.f7, S.e8⟩
theorem CyC.seven (h : CyC w C pl eo ce es L ρ W) (h8 : L 8 = false) (x' y' z' : Value) : CyC w C pl eo ce es (updB L 7) (upd ρ 7 (.pointer (some ⟨W.heap.size, 0, none⟩))) (W.alloc (.cells #[x', y', z'] 27)) := by
  obtain ⟨b, a, c, H, x, y, z, S⟩ := h
  have hb : Below W.heap.size W (W.alloc (.cells #[x', y', z'] 27)) := (Below.refl _ _).alloc (Nat.le_refl _) _
  refine ⟨b, a, c, W.heap.size, x', y', z', S.low.trans (hb.mono S.low.size), S.v0, S.v1, S.v2, fun h h' => ⟨(S.e2 h h').1, blk_later17 (S.e2 h h').2 hb⟩, S.v3, S.v4, S.v5, fun h => (S.e5 h).below hb (Nat.le_refl _), S.v6, fun _ => rfl, fun _ => ⟨S.low.size, heap_alloc_new _ _⟩, fun h _ e => ?_, fun h => ?_⟩
  · have := (World.ownsRow.lt (S.e5 h) _ e).2
    omega
  · rw [show L 8 = true from h] at h8; cases h8
theorem CyC.eight (h : CyC w C pl eo ce es L ρ W) (h2 : L 5 = true) (h6 : L 6 = true) (h7 : L 7 = true) (u : Value) : ∃ H a c x y z, ρ 7 = .pointer (some ⟨H, 0, none⟩) ∧ ρ 6 = .agg #[.bool pl, .slice none 0 0, .slice a es.length c] ∧ W.heap[H]? = some (.cells #[x, y, z] 27 (0, 0)) ∧
    CyC w C pl eo ce es (updB L 8) (upd ρ 8 u) (((W.setCell ⟨H, 0, none⟩ (.bool pl)).setCell ⟨H, 1, none⟩ (.slice none 0 0)).setCell ⟨H, 2, none⟩ (.slice a es.length c)) := by
  obtain ⟨b, a, c, H, x, y, z, S⟩ := h
  obtain ⟨hH, hbox⟩ := S.e7 h7
  refine ⟨H, a, c, x, y, z, S.v7 h7, S.v6 h6, hbox, b, a, c, H, _, _, _, ((S.low.setCell hH _).setCell hH _).setCell hH _, S.v0, S.v1, S.v2, fun _ h => ?_, S.v3, S.v4, S.v5, fun h => ?_, S.v6, S.v7, fun _ => ⟨hH, three_set17 hbox _ _ _⟩, S.f7, fun _ => ⟨rfl, rfl, rfl⟩⟩
  · rw [show L 5 = false from h] at h2; cases h2
  · refine row_same (S.e5 h) fun g hg _ _ => ?_
    have hne : g ≠ H := fun e => S.f7 h h7 (by rw [hg, e])
    rw [heap_setCell_other _ ⟨H, 2, none⟩ g _ hne, heap_setCell_other _ ⟨H, 1, none⟩ g _ hne, heap_setCell_other _ ⟨H, 0, none⟩ g _ hne]
theorem CyC.done (h : CyC w C pl eo ce es L ρ W) (hall : ∀ i, i < 9 → L i = true) : ∃ H a c, ρ 7 = .pointer (some ⟨H, 0, none⟩) ∧ w.heap.size ≤ H ∧ W.heap[H]? = some (.cells #[.bool pl, .slice none 0 0, .slice a es.length c] 27 (0, 0)) ∧ OwnE W w.heap.size (.slice a es.length c) es ∧ (Value.slice a es.length c).ownBlock ≠ some H ∧ Below w.heap.size w W := by
  obtain ⟨b, a, c, H, x, y, z, S⟩ := h
  obtain ⟨rfl, rfl, rfl⟩ := S.e8 (hall 8 (by omega))
  exact ⟨H, a, c, S.v7 (hall 7 (by omega)), (S.e7 (hall 7 (by omega))).1, (S.e7 (hall 7 (by omega))).2, S.e5 (hall 5 (by omega)), S.f7 (hall 5 (by omega)) (hall 7 (by omega)), S.low⟩
end
end Go.Proofs.YtfjgmbimapkabaaDoor
