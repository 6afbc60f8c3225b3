/-
  Above, by places; the edges held against the forest.
-/
import Derived.Test.YtponmjipbcmlhaaMgG
import Derived.Test.YtponmjipbcmlhaaDfRp
namespace Go.Proofs.Ytponmjipbcmlhaa
open Go.RowKit

/-- A reading with its places and ends. -/
structure Full (w0 w : World) (p gp gb : Nat) (av : Value) (f : For) (s : Df.St) (n : Nat) (P E : List Int) : Prop where
  rd : ReadAt w0 w p av f s (.slice (some ⟨gp, 0, none⟩) n n) (.slice (some ⟨gb, 0, none⟩) n n)
  ip : IntsBlk w gp P
  ib : IntsBlk w gb E
  lp : P.length = n
  le : E.length = n

section
variable {w0 w : World} {p gp gb : Nat} {av : Value} {f : For} {s : Df.St} {n : Nat} {es : List (Int × Int)} {P E : List Int}

theorem Full.later {w' : World} (h : Full w0 w p gp gb av f s n P E) (hb : Below w.heap.size w w') : Full w0 w' p gp gb av f s n P E := ⟨h.rd.later hb, h.ip.later hb, h.ib.later hb, h.lp, h.le⟩

set_option maxRecDepth 100000 in
set_option maxHeartbeats 8000000 in
theorem rabove_any (u v : Nat) (h : Full w0 w p gp gb av f s n P E) (hu : u < n) (hv : v < n) :
    Calls Try.prog 31 #[.pointer (some ⟨p, 0, none⟩), .int .i64 (u : Int), .int .i64 (v : Int)] w (BoolPost (Df.at_ P u ≤ Df.at_ P v ∧ Df.at_ P v < Df.at_ E u) w) := by
  have c5 := h.rd.c5
  have c6 := h.rd.c6
  have d1 := h.ip.cell (getD_of (-1) (by rw [h.lp]; exact hu : u < P.length))
  have d2 := h.ip.cell (getD_of (-1) (by rw [h.lp]; exact hv : v < P.length))
  have d3 := h.ib.cell (getD_of (-1) (by rw [h.le]; exact hu : u < E.length))
  obtain ⟨x, hx⟩ : ∃ x, P.getD u (-1) = x := ⟨_, rfl⟩
  obtain ⟨y, hy⟩ : ∃ y, P.getD v (-1) = y := ⟨_, rfl⟩
  obtain ⟨z, hz⟩ : ∃ z, E.getD u (-1) = z := ⟨_, rfl⟩
  rw [hx] at d1
  rw [hy] at d2
  rw [hz] at d3
  have HQ : Hid ((Df.at_ P u ≤ Df.at_ P v ∧ Df.at_ P v < Df.at_ E u) ↔ (x ≤ y ∧ y < z)) := by
    show (P.getD u (-1) ≤ P.getD v (-1) ∧ P.getD v (-1) < E.getD u (-1)) ↔ _
    rw [hx, hy, hz]
  have u0 : (0 : Int) ≤ (u : Int) := by omega
  have u1 : (u : Int) < (n : Int) := by omega
  have v0 : (0 : Int) ≤ (v : Int) := by omega
  have v1 : (v : Int) < (n : Int) := by omega
  by_cases hxy : x ≤ y
  · by_cases hyz : y < z
    · have HR := Nu.hid (And.intro hxy hyz)
      clear h hx hy hz
      go_enter Try.func31, Try.ntmps31
      go_wp2_with fail
      go_quiet (fail)
      go_wp2
      go_ret
      exact ⟨true, rfl, by rw [HQ.out]; exact ⟨fun _ => HR.out, fun _ => rfl⟩, below_drewN (Below.refl _ _) _⟩
    · have hd : decide (y < z) = false := by simp only [decide_eq_false_iff_not]; exact hyz
      have HR := Nu.hid hyz
      clear h hx hy hz hyz
      go_enter Try.func31, Try.ntmps31
      go_wp2_with fail
      go_quiet (fail)
      go_wp2
      go_ret
      exact ⟨false, rfl, by rw [HQ.out]; exact ⟨fun h => (by cases h), fun h => (by have h1 := HR.out; have h2 := h.2; omega)⟩, below_drewN (Below.refl _ _) _⟩
  · have hd : decide (x ≤ y) = false := by simp only [decide_eq_false_iff_not]; exact hxy
    have HR := Nu.hid hxy
    clear h hx hy hz hxy
    go_enter Try.func31, Try.ntmps31
    go_wp2_with fail
    go_quiet (fail)
    go_wp2
    go_ret
    exact ⟨false, rfl, by rw [HQ.out]; exact ⟨fun h => (by cases h), fun h => (by have h1 := HR.out; have h2 := h.1; omega)⟩, below_drewN (Below.refl _ _) _⟩
end
