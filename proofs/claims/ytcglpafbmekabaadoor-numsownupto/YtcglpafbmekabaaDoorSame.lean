/-
  That two lists of the same tokens are found the same.
-/
import Derived.Test.YtcglpafbmekabaaDoorRef
namespace Go.Proofs.YtcglpafbmekabaaDoor
open Go.RowKit

theorem flat_at : ∀ (us : List Nu.Tok) (j : Nat) (t : Nu.Tok), us[j]? = some t →
    (flat us)[j * 4]? = some (.int .i64 t.kind) ∧ (flat us)[j * 4 + 1]? = some (.int .i64 t.at') ∧ (flat us)[j * 4 + 2]? = some (.int .i64 t.fin) ∧ (flat us)[j * 4 + 3]? = some (.int .i64 t.num)
  | [], j, t, h => by simp at h
  | u :: us, 0, t, h => by
    simp at h
    subst h
    simp [flat]
  | u :: us, j + 1, t, h => by
    have ih := flat_at us j t (by simpa using h)
    have e : flat (u :: us) = .int .i64 u.kind :: .int .i64 u.at' :: .int .i64 u.fin :: .int .i64 u.num :: flat us := by simp [flat]
    rw [e, show (j + 1) * 4 = j * 4 + 1 + 1 + 1 + 1 by omega, show j * 4 + 1 + 1 + 1 + 1 + 1 = (j * 4 + 1) + 1 + 1 + 1 + 1 by omega, show j * 4 + 1 + 1 + 1 + 1 + 2 = (j * 4 + 2) + 1 + 1 + 1 + 1 by omega, show j * 4 + 1 + 1 + 1 + 1 + 3 = (j * 4 + 3) + 1 + 1 + 1 + 1 by omega]
    simpa using ih

/-- v is a slice over the tokens us. -/
def TokSlice (w : World) (v : Value) (us : List Nu.Tok) : Prop :=
  (v = .slice none 0 0 ∧ us = []) ∨ ∃ T cap, v = .slice (some ⟨T, 0, none⟩) us.length cap ∧ ∀ j t, us[j]? = some t →
    w.cell? ⟨T, j * 4, none⟩ = some (.int .i64 t.kind) ∧ w.cell? ⟨T, j * 4 + 1, none⟩ = some (.int .i64 t.at') ∧ w.cell? ⟨T, j * 4 + 2, none⟩ = some (.int .i64 t.fin) ∧ w.cell? ⟨T, j * 4 + 3, none⟩ = some (.int .i64 t.num)

theorem TokSlice.form {w : World} {v : Value} {us : List Nu.Tok} (h : TokSlice w v us) : ∃ ao cap, v = .slice ao us.length cap ∧ ∀ j t, us[j]? = some t → ∃ T, ao = some ⟨T, 0, none⟩ ∧
    w.cell? ⟨T, j * 4, none⟩ = some (.int .i64 t.kind) ∧ w.cell? ⟨T, j * 4 + 1, none⟩ = some (.int .i64 t.at') ∧ w.cell? ⟨T, j * 4 + 2, none⟩ = some (.int .i64 t.fin) ∧ w.cell? ⟨T, j * 4 + 3, none⟩ = some (.int .i64 t.num) := by
  rcases h with ⟨rfl, rfl⟩ | ⟨T, cap, rfl, hc⟩
  · exact ⟨none, 0, rfl, fun j t h => by simp at h⟩
  · exact ⟨some ⟨T, 0, none⟩, cap, rfl, fun j t h => ⟨T, rfl, hc j t h⟩⟩

theorem RowToks.slice {w : World} {T : Nat} {us : List Nu.Tok} (h : RowToks w T us.length us) : TokSlice w (.slice (some ⟨T, 0, none⟩) us.length us.length) us := by
  obtain ⟨arr, har, _, hac⟩ := h
  refine .inr ⟨T, _, rfl, fun j t hj => ?_⟩
  obtain ⟨h0, h1, h2, h3⟩ := hac j t hj
  exact ⟨(cell_of_row w T _ _ _ _ har).trans h0, (cell_of_row w T _ _ _ _ har).trans h1, (cell_of_row w T _ _ _ _ har).trans h2, (cell_of_row w T _ _ _ _ har).trans h3⟩

theorem RowToks.below {w w' : World} {T m : Nat} {us : List Nu.Tok} (h : RowToks w T m us) (hb : Below w.heap.size w w') : RowToks w' T m us := by
  obtain ⟨arr, har, h2⟩ := h
  exact ⟨arr, (hb.block T (lt_of_block har)).trans har, h2⟩

theorem OwnToks.slice {w : World} {B : Nat} {v : Value} {us : List Nu.Tok} (h : OwnToks w B v us) : TokSlice w v us := by
  rcases h.2 with ⟨rfl, h0⟩ | ⟨gb, cap, cur, rfl, _⟩
  · exact .inl ⟨rfl, List.length_eq_zero_iff.1 h0⟩
  · refine .inr ⟨gb, cap, rfl, fun j t hj => ?_⟩
    obtain ⟨h0, h1, h2, h3⟩ := flat_at us j t hj
    have ea : ∀ i, ((⟨gb, 0, none⟩ : Addr).add i) = ⟨gb, i, none⟩ := fun i => by
      by_cases hi : i = 0 <;> simp [Addr.add, hi]
    have hc := World.ownsRow.cells h (g := gb) rfl
    simp only [ea] at hc
    exact ⟨hc _ _ h0, hc _ _ h1, hc _ _ h2, hc _ _ h3⟩

set_option maxRecDepth 100000 in
set_option maxHeartbeats 2000000 in
theorem same_any (v u : Value) (us : List Nu.Tok) (w : World) (hv : TokSlice w v us) (hu : TokSlice w u us) (hl : us.length ≤ 4611686018427387904) :
    Calls Tryd.prog 12 #[v, u] w fun e w' => e = .returned (.bool true) ∧ ∃ k, w' = w.drewN k := by
  obtain ⟨ao, ca, rfl, ha⟩ := hv.form
  obtain ⟨bo, cb, rfl, hb⟩ := hu.form
  have j0 : ((us.length : Int) != (us.length : Int)) = false := by simp
  have HA := Nu.hid ha
  have HB := Nu.hid hb
  clear ha hb hv hu
  go_enter Tryd.func12, Tryd.ntmps12
  go_wp2
  go_loopw [5] (fun c wr => ∃ (k m : Nat), k ≤ us.length ∧ c = .int .i64 k ∧ wr = w.drewN m) (fun c _ => us.length - (intOf c).toNat)
  case atStart => exact ⟨0, 0, Nat.zero_le _, rfl, rfl⟩
  case round =>
    obtain ⟨k, m, hk, rfl, rfl⟩ := hrel
    by_cases hlt : k < us.length
    · have hlti : (k : Int) < (us.length : Int) := by omega
      have hk0 : (0 : Int) ≤ (k : Int) := by omega
      obtain ⟨T, rfl, a0, a1, a2, a3⟩ := HA.out k us[k] (by simp [hlt])
      obtain ⟨U, rfl, b0, b1, b2, b3⟩ := HB.out k us[k] (by simp [hlt])
      obtain ⟨t, ht⟩ : ∃ t, t = us[k] := ⟨_, rfl⟩
      rw [← ht] at a0 a1 a2 a3 b0 b1 b2 b3
      clear ht
      obtain ⟨tk, ta, tf, tn⟩ := t
      dsimp only at a0 a1 a2 a3 b0 b1 b2 b3
      go_wp2_with fail
      go_quiet (fail)
      go_wp2
      go_roundw
      case rel => exact ⟨k + 1, m + nq, by omega, by go_num, rfl⟩
      case measure => simp [intOf]; omega
    · have hd : ¬ ((k : Int) < (us.length : Int)) := by omega
      go_wp2
      go_ret
      exact ⟨rfl, m, rfl⟩

end Go.Proofs.YtcglpafbmekabaaDoor
