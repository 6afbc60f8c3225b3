/-
  The document's New.
-/
import Derived.Test.YtfkmldopfhdbkaaMg07
import Derived.Test.YtfkmldopfhdbkaaMg08
import Derived.Sort.Grow
namespace Go.Proofs.Ytfkmldopfhdbkaa
open Go.RowKit Go.Sort

theorem Co.ints_succ (k : Nat) (f : Nat → Nat) : Co.ints (k + 1) f = Co.ints k f ++ [(f k : Int)] := by
  unfold Co.ints
  rw [List.range_succ, List.map_append]
  rfl

def RNewPost (n : Int) (w : World) (e : Ending) (w' : World) : Prop :=
  ((∃ (k : Nat) (v : Value), n = (k : Int) ∧ k ≤ 1048576 ∧ e = .returned (.tuple #[v, .int .i64 0]) ∧ OwnZ w' w.heap.size v (Co.ints k (fun x => x))) ∨ ((n < 0 ∨ 1048576 < n) ∧ e = .returned (.tuple #[.slice none 0 0, .int .i64 2]))) ∧ Below w.heap.size w w'

set_option maxRecDepth 100000 in
set_option maxHeartbeats 4000000 in
theorem rnew_any (n : Int) (w : World) : Calls Try.prog 53 #[.int .i64 n] w (RNewPost n w) := by
  obtain ⟨i0, hi, hz0, hz1, hz2⟩ := info_parts Try.infoNum
  by_cases h1 : n < 0
  · go_enter Try.func53, Try.ntmps53
    go_wp2
    go_ret2
    exact ⟨.inr ⟨.inl h1, rfl⟩, Below.refl _ _⟩
  by_cases h2 : 1048576 < n
  · go_enter Try.func53, Try.ntmps53
    go_wp2
    go_ret2
    exact ⟨.inr ⟨.inr h2, rfl⟩, Below.refl _ _⟩
  obtain ⟨k, rfl⟩ : ∃ k : Nat, n = (k : Int) := ⟨n.toNat, by omega⟩
  have hkn : k ≤ 1048576 := by omega
  go_enter Try.func53, Try.ntmps53
  go_wp2
  go_loopw [4, 5] (fun s cv wr => ∃ j : Nat, j ≤ k ∧ cv = .int .i64 (j : Int) ∧ OwnZ wr w.heap.size s (Co.ints j (fun x => x)) ∧ Below w.heap.size w wr) (fun _ cv _ => k - (intOf cv).toNat)
  case atStart => exact ⟨0, Nat.zero_le _, rfl, OwnZ.nil _ _, Below.refl _ _⟩
  case round =>
    obtain ⟨j, hj, rfl, ho, hb⟩ := hrel
    obtain ⟨ao, ca, hs, -, -⟩ := ho.form
    rw [Co.ints_length] at hs
    by_cases hlt : j < k
    · have hlti : (j : Int) < (k : Int) := by omega
      unfold OwnZ at ho
      rw [Co.ints_length] at ho
      have HO := Nu.hid ho
      have HB := Nu.hid hb
      have hsb := hb.size
      have hoB : ∀ b, (Value.slice ao j ca).ownBlock = some b → w.heap.size ≤ b := fun b hbk => by
        rw [hs] at ho
        exact (World.ownsRow.lt ho b hbk).1
      have HOB := Nu.hid hoB
      subst hs
      clear ho hb hoB
      go_wp2_with (at_builtin; refine wpList_append_own_at _ rfl _ _ 36 rfl w.heap.size 3 i0 (.int .i64 0) 1 8 Try.underlying36 hi hz0 hz1 hz2 rfl (by decide) _ _ _ rfl (World.ownsRow.alloc HO.out _) ⟨wr.heap.size, 0, none⟩ 1 1 [.int .i64 (j : Int)] rfl rfl (cell_one_new _ _ _) (by simp [Value.oneCell']) (by unfold maxLen; omega) (by omega) (by simp; omega) ?_; refine Hid.out ?_)
      refine Nu.hid ?_
      intro v1 w1 hown1 hgrow1 _ hat1
      obtain ⟨g1, c1, hv1⟩ := own_succ hown1
      subst hv1
      have HO1 : Hid (OwnZ w1 w.heap.size (.slice (some ⟨g1, 0, none⟩) (j + 1) c1) (Co.ints (j + 1) (fun x => x))) := by
        show OwnZ _ _ _ _
        unfold OwnZ
        rw [Co.ints_length, Co.ints_succ, List.map_append]
        exact hown1
      have HB1 := Nu.hid ((HB.out.alloc hsb _).grown hgrow1 (by simp; omega) HOB.out)
      clear hown1 hgrow1 hat1
      go_wp2
      go_roundw
      case rel => exact ⟨j + 1, by omega, by go_num, HO1.out, HB1.out⟩
      case measure => simp [intOf]; omega
    · have hd : ¬ ((j : Int) < (k : Int)) := by omega
      obtain rfl : j = k := by omega
      have HO := Nu.hid ho
      have HB := Nu.hid hb
      subst hs
      clear ho hb
      go_wp2
      go_ret2
      exact ⟨.inl ⟨j, _, rfl, hkn, rfl, HO.out⟩, HB.out⟩

end Go.Proofs.Ytfkmldopfhdbkaa
