import Derived.Test.YtponmjipbcmlhaaMgC
import Derived.Test.YtponmjipbcmlhaaKin
import Derived.Test.YtponmjipbcmlhaaCsGet2
import Derived.Deep.RegionHeld3
import Derived.Lib.SliceRun
/-
  So many numbers that nothing has been said of.
-/
namespace Go.Proofs.Ytponmjipbcmlhaa
open Go.RowKit

set_option maxRecDepth 100000 in
set_option maxHeartbeats 4000000 in
theorem unset_any (n : Nat) (w : World) (hn : n ≤ 8388608) :
    Calls Try.prog 53 #[.int .i64 (n : Int)] w fun e w' => ∃ g, e = .returned (.slice (some ⟨g, 0, none⟩) n n) ∧ w.heap.size ≤ g ∧ IntsBlk w' g (List.replicate n (-1)) ∧ Below w.heap.size w w' := by
  obtain ⟨i0, hi, hz0, hz1, hz2⟩ := info_parts Try.infoNum
  go_enter Try.func53, Try.ntmps53
  go_wp2_with (at_make; refine wpList_make_full _ rfl _ _ 26 rfl w.heap.size 3 i0 (.int .i64 0) 1 Try.underlying26 hi hz0 hz1 _ _ _ _ n rfl rfl rfl rfl (by rw [hz2]; omega) (by unfold maxLen; omega) (Nat.le_refl _) ?_; refine Hid.out ?_)
  refine Nu.hid ?_
  intro w2 hrow hg2
  rw [made_zeros] at hrow
  have hik := ints_of_row hrow
  have hb2 : Below w.heap.size w w2 := (Below.refl _ _).grown hg2 (Nat.le_refl _) (fun j hj => by cases hj)
  have HI2 := Nu.hid hik
  have HB2 := Nu.hid hb2
  clear hrow hg2 hik hb2
  go_wp2
  go_loopw [9] (fun c wr => ∃ (k : Nat) (S : List Int), k ≤ n ∧ c = .int .i64 k ∧ S.length = n ∧ (∀ v, v < k → S[v]? = some (-1)) ∧ IntsBlk wr w.heap.size S ∧ Below w.heap.size w wr) (fun c _ => n - (intOf c).toNat)
  case atStart => exact ⟨0, _, Nat.zero_le _, rfl, by simp, fun v hv => by omega, HI2.out, HB2.out⟩
  case round =>
    obtain ⟨k, S, hk, rfl, hSl, hS, hiS, hb⟩ := hrel
    have hsz := hiS.lt
    have HS := Nu.hid hS
    have HIS := Nu.hid hiS
    have HB := Nu.hid hb
    by_cases hkn : k < n
    · have hk0 : (0 : Int) ≤ (k : Int) := by omega
      have hk1 : (k : Int) < (n : Int) := by omega
      obtain ⟨x, hx⟩ : ∃ x, S[k]? = some x := ⟨_, List.getElem?_eq_getElem (by omega)⟩
      have c0 := hiS.cell hx
      have c1 := hiS.free k
      have HN1 := Nu.hid (hiS.set k (-1))
      have HBN := Nu.hid (hb.setCell (p := ⟨w.heap.size, k, none⟩) (Nat.le_refl _) (.int .i64 (-1)))
      clear hS hiS hb hx
      go_wp2
      go_roundw
      case rel =>
        refine ⟨k + 1, S.set k (-1), by omega, by go_num, by simp [hSl], fun v hv => ?_, HN1.out, HBN.out⟩
        rw [List.getElem?_set]
        by_cases e : k = v
        · subst e
          rw [if_pos rfl, if_pos (by omega)]
        · rw [if_neg e]
          exact HS.out v (by omega)
      case measure => simp [intOf]; omega
    · have hd : ¬ ((k : Int) < (n : Int)) := by omega
      have e : S = List.replicate n (-1) := by
        refine List.ext_getElem? fun v => ?_
        by_cases hv : v < n
        · rw [hS v (by omega), List.getElem?_replicate, if_pos hv]
        · rw [List.getElem?_eq_none (by omega), List.getElem?_eq_none (by simp; omega)]
      subst e
      clear hS hiS hb
      go_wp2
      go_ret
      exact ⟨w.heap.size, rfl, Nat.le_refl _, HIS.out, HB.out⟩

end Go.Proofs.Ytponmjipbcmlhaa

/-
  A walk that begins.
-/
namespace Go.Proofs.Ytponmjipbcmlhaa
open Go.RowKit

/-- What newWalker answers. -/
def NewWPost (av : Value) (n m : Nat) (w : World) (e : Ending) (w' : World) : Prop :=
  ∃ p gp gh go gr, e = .returned (.pointer (some ⟨p, 0, none⟩)) ∧ w'.heap[p]? = some (.cells #[av, .slice (some ⟨gp, 0, none⟩) n n, .slice (some ⟨gh, 0, none⟩) n n, .slice (some ⟨go, 0, none⟩) 0 n, .slice (some ⟨gr, 0, none⟩) m m, .slice none 0 0] 72 (0, 0)) ∧
    IntsBlk w' gp (List.replicate n (-1)) ∧ IntsBlk w' gh (List.replicate n (-1)) ∧ IntsBlk w' gr (List.replicate m (-1)) ∧ IntsBlk w' go (List.replicate n 0) ∧
    (w.heap.size ≤ p ∧ w.heap.size ≤ gp ∧ w.heap.size ≤ gh ∧ w.heap.size ≤ go ∧ w.heap.size ≤ gr) ∧ (p ≠ gp ∧ p ≠ gh ∧ p ≠ go ∧ p ≠ gr ∧ gp ≠ gh ∧ gp ≠ go ∧ gp ≠ gr ∧ gh ≠ go ∧ gh ≠ gr ∧ go ≠ gr) ∧ Below w.heap.size w w'

theorem made_blk {W : World} {k M : Nat} (h : W.heap.size = k) : IntsBlk (W.alloc (.cells (madeCells #[.int .i64 0] M) 3)) k (List.replicate M 0) := by
  subst h
  unfold IntsBlk
  rw [heap_alloc_new, ← made_zeros]

theorem alloc_at {W : World} {k : Nat} {o : Obj} (h : W.heap.size = k) : (W.alloc o).heap[k]? = some o := by
  subst h
  exact heap_alloc_new W o

set_option maxRecDepth 100000 in
set_option maxHeartbeats 8000000 in
theorem newWalker_any (av : Value) (n : Nat) (es : List (Int × Int)) (w : World) (h : IsAdj w av n es) :
    Calls Try.prog 38 #[av] w (NewWPost av n es.length w) := by
  obtain ⟨i0, hi, hz0, hz1, hz2⟩ := info_parts Try.infoNum
  obtain ⟨hb1, hb2⟩ := h.bounds
  have hav : ∃ q, av = .pointer q := by
    rcases h with ⟨h, _⟩ | ⟨_, p, h, _⟩
    · exact ⟨_, h⟩
    · exact ⟨_, h⟩
  obtain ⟨q, rfl⟩ := hav
  have hN : ∀ V, Below w.heap.size w V → Calls Try.prog 39 #[.pointer q] V fun e V' => e = .returned (.int .i64 (n : Int)) ∧ V' = V := fun V hV => aN_any _ n es V (h.later hV)
  have hM : ∀ V, Below w.heap.size w V → Calls Try.prog 54 #[.pointer q] V fun e V' => e = .returned (.int .i64 (es.length : Int)) ∧ V' = V := fun V hV => aM_any _ n es V (h.later hV)
  have hU : ∀ V (k : Nat), k ≤ 8388608 → Calls Try.prog 53 #[.int .i64 (k : Int)] V fun e V' => ∃ g, e = .returned (.slice (some ⟨g, 0, none⟩) k k) ∧ V.heap.size ≤ g ∧ IntsBlk V' g (List.replicate k (-1)) ∧ Below V.heap.size V V' := fun V k hk => unset_any k V hk
  have hmk : ∀ W, (Instr.makeSlice 26 (.int .i64 0) (.int .i64 (n : Int))).run Try.prog W = .ok (.slice (some ⟨W.heap.size, 0, none⟩) 0 n) (W.alloc (.cells (madeCells #[.int .i64 0] n) 3)) := fun W => by
    have := run_make (P := Try.prog) W 26 3 i0 (.int .i64 0) Try.underlying26 hi hz0 .i64 .i64 0 (n : Int) (by omega) (by omega) (by rw [hz2]; omega) (by omega)
    rw [this, hz1]
    simp [Value.cells]
  obtain ⟨m, hm⟩ : ∃ m, es.length = m := ⟨_, rfl⟩
  rw [hm] at hM hb2 ⊢
  have HN := Nu.hid hN
  have HM := Nu.hid hM
  have HU := Nu.hid hU
  have hbd : Below w.heap.size w w.drew := (Below.refl _ _).drew
  clear hN hM hU h hm
  go_enter Try.func38, Try.ntmps38
  go_wp2_with fail
  go_region_held3 (fun V => Below w.heap.size w V) (first | assumption | exact hbd | exact Below.alloc (by first | assumption | exact hbd) (Below.size (by first | assumption | exact hbd)) _)
    ((first
      | (go_at_call 39; refine (HN.out _ (by first | assumption | exact hbd)).mono ?_; rintro e V1 ⟨rfl, rfl⟩)
      | (go_at_call 54; refine (HM.out _ (by first | assumption | exact hbd)).mono ?_; rintro e V1 ⟨rfl, rfl⟩)
      | (go_at_call 53; refine (HU.out _ _ (by omega)).mono ?_; rintro e V2 ⟨g, rfl, hg1, hg2, hv2⟩; have hb2 : Below w.heap.size w V2 := Below.trans (by first | assumption | exact hbd) (hv2.mono (Below.size (by first | assumption | exact hbd))))))
  all_goals
    clear HN HM HU hmk
    go_wp2
    go_ret
  all_goals
    rename_i bA gA h1A VA h2A h3A h4A gB h1B h2B h3B h4B hZ
    have s1 := h3A.size
    have s2 := h3B.size
    have s3 := hv2.size
    have l1 := h2A.lt
    have l2 := h2B.lt
    have l3 := hg2.lt
    have u1 := h1A
    have u3 := hg1
    have hwd : w.drew.heap.size = w.heap.size := rfl
    simp only [World.size_alloc, hwd] at s1 s2 s3 u1 u3
    refine ⟨_, gA, gB, _, g, rfl, alloc_at (by simp), ?_, ?_, ?_, ?_, ?_, ?_, hZ⟩
    · repeat (first | exact h2A | refine IntsBlk.later ?_ hv2 | refine IntsBlk.later ?_ h3B | refine IntsBlk.alloc ?_ _)
    · repeat (first | exact h2B | refine IntsBlk.later ?_ hv2 | refine IntsBlk.alloc ?_ _)
    · repeat (first | exact hg2 | refine IntsBlk.alloc ?_ _)
    · repeat (first | (refine made_blk ?_; simp; done) | refine IntsBlk.later ?_ hv2 | refine IntsBlk.alloc ?_ _)
    · try simp only [World.size_alloc]
      refine ⟨?_, ?_, ?_, ?_, ?_⟩ <;> omega
    · try simp only [World.size_alloc]
      refine ⟨?_, ?_, ?_, ?_, ?_, ?_, ?_, ?_, ?_, ?_⟩ <;> omega

end Go.Proofs.Ytponmjipbcmlhaa
