/-
  The reader in memory, and what its small callees answer: reject, and what is said at the end.
-/
import Derived.Test.YtmgjfakdjponoaaDoorPa
import Derived.Test.YtmgjfakdjponoaaDoorChainA
import Derived.Deep.RegionHeld3
import Derived.Deep.AppendLies
import Derived.BigRegion
namespace Go.Proofs.YtmgjfakdjponoaaDoor
open Go.RowKit

/-- Block b is a reader in state s whose list of pairs is v. -/
def Rdr (w : World) (b : Nat) (s : Pa.St) (v : Value) : Prop :=
  w.heap[b]? = some (.cells #[.bool s.begun, .int .i64 s.n, .int .i64 s.m, v] 96 (0, 0))

section
variable {w w' : World} {b : Nat} {s : Pa.St} {v : Value}
theorem Rdr.lt (h : Rdr w b s v) : b < w.heap.size := lt_of_block h
theorem Rdr.c0 (h : Rdr w b s v) : w.cell? ⟨b, 0, none⟩ = some (.bool s.begun) := by unfold Rdr at h; simp [World.cell?, h]
theorem Rdr.c1 (h : Rdr w b s v) : w.cell? ⟨b, 1, none⟩ = some (.int .i64 s.n) := by unfold Rdr at h; simp [World.cell?, h]
theorem Rdr.c2 (h : Rdr w b s v) : w.cell? ⟨b, 2, none⟩ = some (.int .i64 s.m) := by unfold Rdr at h; simp [World.cell?, h]
theorem Rdr.c3 (h : Rdr w b s v) : w.cell? ⟨b, 3, none⟩ = some v := by unfold Rdr at h; simp [World.cell?, h]
theorem Rdr.free (h : Rdr w b s v) (i : Nat) : w.frozen? ⟨b, i, none⟩ = false := by unfold Rdr at h; simp [World.frozen?, h]
theorem Rdr.below {B : Nat} (h : Rdr w b s v) (hb : Below B w w') (hlt : b < B) : Rdr w' b s v := (hb.block b hlt).trans h
end

def tokVal (t : Nu.Tok) : Value := .agg #[.int .i64 t.kind, .int .i64 t.at', .int .i64 t.fin, .int .i64 t.num]
def rejVal (x : Int × Int) : Value := .agg #[.int .i64 x.1, .int .i64 x.2]

set_option maxHeartbeats 400000 in
theorem reject_any (c : Int) (t : Nu.Tok) (w : World) :
    Calls Tryd.prog 73 #[.int .i64 c, tokVal t] w fun e w' => e = .returned (rejVal (c, t.at')) ∧ Below w.heap.size w w' := by
  unfold tokVal rejVal
  go_enter Tryd.func73, Tryd.ntmps73
  go_wp2
  exact bodyPost_ret (v := .agg #[.int .i64 c, .int .i64 t.at']) (by simp [results, Tryd.results73, go_sem]) rfl ⟨rfl, ((Below.refl _ _).alloc (Nat.le_refl _) _).alloc (by simp) _⟩

theorem bcell {W w1 : World} (hb : Below W.heap.size W w1) : (∀ b o, b < W.heap.size → w1.cell? ⟨b, o, none⟩ = W.cell? ⟨b, o, none⟩) ∧ (∀ b o, b < W.heap.size → w1.frozen? ⟨b, o, none⟩ = W.frozen? ⟨b, o, none⟩) :=
  ⟨fun b o h => hb.cell (p := ⟨b, o, none⟩) h, fun b o h => hb.frozen (p := ⟨b, o, none⟩) h⟩

/-- What a fault, or none, is as a value. -/
def outX (r : Except (Int × Int) Pa.St) : Int × Int := match r with
  | .error x => x
  | .ok _ => (0, 0)
def outVal (r : Except (Int × Int) Pa.St) : Value := rejVal (outX r)

set_option maxHeartbeats 400000 in
theorem end_any (b : Nat) (s : Pa.St) (ao : Option Addr) (cap : Nat) (t : Nu.Tok) (w : World) (hr : Rdr w b s (.slice ao s.pairs.length cap)) :
    Calls Tryd.prog 56 #[.pointer (some ⟨b, 0, none⟩), tokVal t] w fun e w' => e = .returned (outVal (Pa.fin s t.at')) ∧ Below w.heap.size w w' := by
  have hlt := hr.lt
  have c0 := hr.c0
  have c2 := hr.c2
  have c3 := hr.c3
  clear hr
  obtain ⟨begun, n, m, ps⟩ := s
  dsimp only at c0 c2 c3
  unfold Pa.fin outVal outX
  dsimp only
  cases begun
  · rw [if_pos rfl]
    unfold tokVal
    go_enter Tryd.func56, Tryd.ntmps56
    go_wp2_with (go_at_call 73; refine (reject_any 20 t _).mono ?_; refine Hid.out ?_)
    refine Nu.hid ?_
    rintro e w1 ⟨rfl, hb⟩
    unfold rejVal
    obtain ⟨hc, hf⟩ := bcell hb
    have hz := hb.size
    simp at hz
    go_wp2
    refine bodyPost_ret (v := .agg #[.int .i64 20, .int .i64 t.at']) (by simp [results, Tryd.results56, go_sem, hc]) rfl ⟨rfl, ?_⟩
    exact ((((((Below.refl _ _).alloc (Nat.le_refl _) _).alloc (by simp) _).trans (hb.mono (by simp; omega))).setCell (by simp) _).setCell (by simp) _)
  · rw [if_neg (by simp)]
    by_cases hl : (ps.length : Int) < m
    · rw [if_pos hl]
      unfold tokVal
      go_enter Tryd.func56, Tryd.ntmps56
      go_wp2_with fail
      go_quiet (fail)
      go_wp2_with (go_at_call 73; refine (reject_any 25 t _).mono ?_; refine Hid.out ?_)
      refine Nu.hid ?_
      rintro e w1 ⟨rfl, hb⟩
      unfold rejVal
      obtain ⟨hc, hf⟩ := bcell hb
      have hz := hb.size
      simp at hz
      go_wp2
      refine bodyPost_ret (v := .agg #[.int .i64 25, .int .i64 t.at']) (by simp [results, Tryd.results56, go_sem, hc]) rfl ⟨rfl, ?_⟩
      exact (((below_drewN (((Below.refl _ _).alloc (Nat.le_refl _) _).alloc (by simp) _) nq).trans (hb.mono (by simp; omega))).setCell (by simp) _).setCell (by simp) _
    · rw [if_neg hl]
      unfold tokVal
      go_enter Tryd.func56, Tryd.ntmps56
      go_wp2_with fail
      go_quiet (fail)
      go_wp2
      refine bodyPost_ret (v := .agg #[.int .i64 0, .int .i64 0]) (by simp [results, Tryd.results56, go_sem]) rfl ⟨rfl, ?_⟩
      exact ((below_drewN (((Below.refl _ _).alloc (Nat.le_refl _) _).alloc (by simp) _) nq).setCell (by simp) _).setCell (by simp) _

end Go.Proofs.YtmgjfakdjponoaaDoor
