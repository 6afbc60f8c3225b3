/-
  Groups that are read.
-/
import Derived.Test.YtofphdmebjcofaaBuIn
import Derived.Test.YtofphdmebjcofaaBuRGrp
namespace Go.Proofs.Ytofphdmebjcofaa
open Go.RowKit

theorem RowsZ.look {w : World} {B g K c u : Nat} {vs : List Value} {ls : List (List Int)} {l : List Int} (h : RowsZ w B (.slice (some ⟨g, 0, none⟩) K c) vs ls) (hl : ls[u]? = some l) : ∃ ao ca, w.cell? ⟨g, u, none⟩ = some (.slice ao l.length ca) ∧ Lst w ao l.length ca l := by
  obtain ⟨x, hx⟩ := h.at' hl
  obtain ⟨ao, ca, rfl, hL, -⟩ := (h.row u x l hx hl).lst
  have cx := World.ownsRow.cells h.outer (g := g) rfl u _ hx
  have ea : ((⟨g, 0, none⟩ : Addr).add u) = ⟨g, u, none⟩ := by
    by_cases h0 : u = 0 <;> simp [Addr.add, h0]
  rw [ea] at cx
  exact ⟨ao, ca, cx, hL⟩

/-- What Group answers where there is no fault. -/
theorem group_yes (m : Nat) (ao : Option Addr) (ca n : Nat) (ks : List Int) (w : World) (hl : n ≤ 17592186043904) (ha : Lst w ao n ca ks) (hf : Bu.fault (m : Int) ks = 0) :
    Calls Try.prog 14 #[.slice ao n ca, .int .i64 (m : Int)] w fun e w' => ∃ g c vs, e = .returned (.tuple #[.slice (some ⟨g, 0, none⟩) (m + 1) c, .int .i64 0]) ∧ RowsZ w' w.heap.size (.slice (some ⟨g, 0, none⟩) (m + 1) c) vs (Bu.groups ks (m + 1)) ∧ Below w.heap.size w w' :=
  (group_any (m : Int) ao ca n ks w hl ha).mono (by
    rintro e w' ⟨⟨h1, _⟩ | ⟨_, v, vs, rfl, h2⟩, hb⟩
    · exact absurd hf h1
    · rw [show ((m : Int) + 1).toNat = m + 1 by omega] at h2
      have ho := h2.outer
      rw [Bu.groups_length] at ho
      rcases ho.2 with ⟨_, h0⟩ | ⟨g, c, cur, rfl, _⟩
      · omega
      · exact ⟨g, c, vs, rfl, h2, hb⟩)

theorem group_no (most : Int) (ao : Option Addr) (ca n : Nat) (ks : List Int) (w : World) (hl : n ≤ 17592186043904) (ha : Lst w ao n ca ks) (hf : Bu.fault most ks ≠ 0) :
    Calls Try.prog 14 #[.slice ao n ca, .int .i64 most] w fun e w' => e = .returned (.tuple #[.slice none 0 0, .int .i64 (Bu.fault most ks)]) ∧ Below w.heap.size w w' :=
  (group_any most ao ca n ks w hl ha).mono (by
    rintro e w' ⟨⟨_, h1⟩ | ⟨h1, _⟩, hb⟩
    · exact ⟨h1, hb⟩
    · exact absurd h1 hf)

end Go.Proofs.Ytofphdmebjcofaa
