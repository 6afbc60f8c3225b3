/-
  What the closure within the statement's own spaced answers: a number from 0 to 59, and its count is one more.
-/
import Derived.Test.YtkjmnfhpikoaaaaPaSpaced
import Derived.Test.YtkjmnfhpikoaaaaPaFixed
import Derived.Test.YtkjmnfhpikoaaaaKin
import Derived.Maps.AppendAt
import Derived.Lib.AppendStr
namespace Go.Proofs.Ytkjmnfhpikoaaaa
open Go.RowKit

theorem Try.infoI64 : (Try.prog.info? 3).map (fun i => (i.zero, i.size, i.bytes)) = some (some (.int .i64 0), 1, 8) := by kernel_rfl

theorem newI (W : World) (k : Nat) (hk : W.heap.size = k) (a : Value) : ∀ j u, [a][j]? = some u → (W.alloc (.cells #[a] 3)).cell? ((⟨k, 0, none⟩ : Addr).add j) = some u := by
  subst hk
  exact World.news_of_block (cs := #[a]) (t := 3) (fr := (0, 0)) (heap_alloc_new W _)

/-- The numbers z 0 .. z (n - 1) lie at ao. -/
def HasI (w : World) (ao : Option Addr) (n : Nat) (z : Nat → Int) : Prop :=
  ∀ i, i < n → (-9223372036854775808 ≤ z i ∧ z i ≤ 9223372036854775807) ∧ ∃ tb to, ao = some ⟨tb, to, none⟩ ∧ w.cell? ⟨tb, to + i, none⟩ = some (.int .i64 (z i))

theorem tmod_bounds (v : Int) : -60 < v.tmod 60 ∧ v.tmod 60 < 60 := by
  have h1 := Int.tmod_lt_of_pos v (show (0 : Int) < 60 by decide)
  have h2 := Int.lt_tmod_of_pos v (show (0 : Int) < 60 by decide)
  omega

def TickPost (kb i : Nat) (w : World) (e : Ending) (w' : World) : Prop := ∃ (r : Nat) (nq : Nat), r < 60 ∧ e = .returned (.int .i64 r) ∧ w' = (w.setCell ⟨kb, 0, none⟩ (.int .i64 (i + 1 : Nat))).drewN nq

set_option maxHeartbeats 2000000 in
theorem tick_any (kb bb i : Nat) (ao : Option Addr) (len cap : Nat) (z : Nat → Int) (w : World) (hk : w.heap[kb]? = some (.cells #[.int .i64 i] 3 (0, 0))) (hb : w.cell? ⟨bb, 0, none⟩ = some (.slice ao len cap)) (hz : HasI w ao len z) (hi : i ≤ 1000000) (hlen : len ≤ 140737488355328) (hne : bb ≠ kb) (hfar : ∀ x, ao = some x → 0 < len → x.block ≠ kb) :
    Calls Try.prog 17 #[.pointer (some ⟨kb, 0, none⟩), .pointer (some ⟨bb, 0, none⟩)] w (TickPost kb i w) := by
  unfold TickPost
  have c0 : w.cell? ⟨kb, 0, none⟩ = some (.int .i64 i) := by simp [World.cell?, hk]
  have f0 : w.frozen? ⟨kb, 0, none⟩ = false := by simp [World.frozen?, hk]
  have hne' : kb ≠ bb := fun h => hne h.symm
  by_cases h0 : len = 0
  · subst h0
    go_enter Try.func17, Try.ntmps17
    go_wp2
    go_ret
    exact ⟨0, 0, by omega, rfl, by rw [show ((i + 1 : Nat) : Int) = (i : Int) + 1 by omega]; rfl⟩
  · have hpos : 0 < len := by omega
    obtain ⟨⟨b0, b1⟩, tb, to, rfl, cz⟩ := hz ((i + 1) % len) (Nat.mod_lt _ hpos)
    have hft := hfar _ rfl hpos
    dsimp only at hft
    have hft' : kb ≠ tb := fun h => hft h.symm
    have j0 : ((len : Int) == 0) = false := by simp; omega
    have j1 : ¬ ((len : Int) = 0) := by omega
    have hrem : ((i : Int) + 1).tmod (len : Int) = (((i + 1) % len : Nat) : Int) := by
      rw [Int.tmod_eq_emod_of_nonneg (by omega)]
      simp
    have hm := Nat.mod_lt (i + 1) hpos
    generalize (i + 1) % len = j at hrem hm b0 b1 cz
    have m0 : (0 : Int) ≤ (j : Int) := by omega
    have m1 : (j : Int) < (len : Int) := by omega
    have hb1 := tmod_bounds (z j)
    obtain ⟨a, ha⟩ : ∃ a, a = (z j).tmod 60 := ⟨_, rfl⟩
    rw [← ha] at hb1
    have ha' := ha.symm
    clear ha
    go_enter Try.func17, Try.ntmps17
    go_wp2_with fail
    go_quiet (fail)
    go_wp2
    go_ret
    exact ⟨((a + 60) % 60).toNat, nq, by omega, by rw [Int.toNat_of_nonneg (show 0 ≤ (a + 60) % 60 by omega)]; rfl, by rw [show ((i + 1 : Nat) : Int) = (i : Int) + 1 by omega]⟩

end Go.Proofs.Ytkjmnfhpikoaaaa
