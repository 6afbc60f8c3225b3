/-
  The statements' own 'few' and 'tells'.
-/
import Derived.Test.YtoaaihbeehpgfaaCoRef2
import Derived.Test.YtoaaihbeehpgfaaCoSame
namespace Go.Proofs.Ytoaaihbeehpgfaa
open Go.RowKit Go.Sort

def FewPost (w : World) (e : Ending) (w' : World) : Prop := ∃ v l, e = .returned v ∧ OwnZ w' w.heap.size v l ∧ l.length ≤ 15 ∧ Below w.heap.size w w'

set_option maxRecDepth 100000 in
set_option maxHeartbeats 4000000 in
theorem few_any (n : Nat) (w : World) (hn : n ≤ 1048576) : Calls Try.prog 17 #[.int .i64 (n : Int)] w (FewPost w) := by
  obtain ⟨i0, hi, hz0, hz1, hz2⟩ := info_parts Try.infoNum
  have hst : OwnZ (w.alloc (.cells #[.int .i64 (-1), .int .i64 (n : Int), .int .i64 ((n : Int) - 1)] 3)) w.heap.size (.slice (some ⟨w.heap.size, 0, none⟩) 3 3) [-1, (n : Int), (n : Int) - 1] :=
    ⟨rfl, .inr ⟨w.heap.size, 3, _, rfl, Nat.le_refl _, heap_alloc_new w _, Nat.le_refl _, by unfold maxLen; omega, rfl, rfl⟩⟩
  have HST := Nu.hid hst
  have HB0 := Nu.hid ((Below.refl w.heap.size w).alloc (Nat.le_refl _) (.cells #[.int .i64 (-1), .int .i64 (n : Int), .int .i64 ((n : Int) - 1)] 3))
  clear hst
  go_enter Try.func17, Try.ntmps17
  go_wp2
  go_loopw [3, 4] (fun s cv wr => ∃ (j : Nat) (l : List Int), j ≤ n ∧ j ≤ 12 ∧ cv = .int .i64 (j : Int) ∧ l.length = 3 + j ∧ OwnZ wr w.heap.size s l ∧ Below w.heap.size w wr) (fun _ cv _ => 12 - (intOf cv).toNat)
  case atStart => exact ⟨0, _, Nat.zero_le _, by omega, rfl, rfl, HST.out, HB0.out⟩
  case round =>
    obtain ⟨j, l, hj, hj12, rfl, hl, ho, hb⟩ := hrel
    obtain ⟨ao, ca, hs, -, -⟩ := ho.form
    rw [hl] at hs
    have hsb := hb.size
    by_cases h1 : j < n
    · have h1i : (j : Int) < (n : Int) := by omega
      by_cases h2 : j < 12
      · have h2i : (j : Int) < 12 := by omega
        have HL := Nu.hid hl
        unfold OwnZ at ho
        rw [hl] at ho
        have HO := Nu.hid ho
        have HB := Nu.hid hb
        have hoB : ∀ b, (Value.slice ao (3 + j) ca).ownBlock = some b → w.heap.size ≤ b := fun b hbk => by
          rw [hs] at ho
          exact (World.ownsRow.lt ho b hbk).1
        have HOB := Nu.hid hoB
        subst hs
        clear ho hb hoB hl
        go_wp2_with (at_builtin; refine wpList_append_own_at _ rfl _ _ 30 rfl w.heap.size 3 i0 (.int .i64 0) 1 8 Try.underlying30 hi hz0 hz1 hz2 rfl (by decide) _ _ _ rfl (World.ownsRow.alloc HO.out _) ⟨wr.heap.size, 0, none⟩ 1 1 [.int .i64 (j : Int)] rfl rfl (cell_one_new _ _ _) (by simp [Value.oneCell']) (by unfold maxLen; omega) (by omega) (by simp; omega) ?_; refine Hid.out ?_)
        refine Nu.hid ?_
        intro v1 w1 hown1 hgrow1 _ hat1
        obtain ⟨g1, c1, hv1⟩ := own_succ hown1
        subst hv1
        have HO1 : Hid (OwnZ w1 w.heap.size (.slice (some ⟨g1, 0, none⟩) (3 + j + 1) c1) (l ++ [(j : Int)])) := by
          show OwnZ _ _ _ _
          unfold OwnZ
          rw [List.length_append, List.map_append, HL.out]
          exact hown1
        have HB1 := Nu.hid ((HB.out.alloc hsb _).grown hgrow1 (by simp; omega) HOB.out)
        clear hown1 hgrow1 hat1
        go_wp2
        go_roundw
        case rel => exact ⟨j + 1, _, by omega, by omega, by go_num, by rw [List.length_append, HL.out]; rfl, HO1.out, HB1.out⟩
        case measure => simp [intOf]; omega
      · have h2i : ¬ (j : Int) < 12 := by omega
        have HO := Nu.hid ho
        have HB := Nu.hid hb
        have hll : l.length ≤ 15 := by omega
        have HLL := Nu.hid hll
        subst hs
        clear ho hb hl hll
        go_wp2
        go_ret
        exact ⟨_, l, rfl, HO.out, HLL.out, HB.out⟩
    · have h1i : ¬ (j : Int) < (n : Int) := by omega
      have HO := Nu.hid ho
      have HB := Nu.hid hb
      have hll : l.length ≤ 15 := by omega
      have HLL := Nu.hid hll
      subst hs
      clear ho hb hl hll
      go_wp2
      go_ret
      exact ⟨_, l, rfl, HO.out, HLL.out, HB.out⟩

set_option maxRecDepth 100000 in
set_option maxHeartbeats 8000000 in
theorem tells_any (v : Option Addr) (n : Nat) (m : Nat → Nat) (ao : Option Addr) (c : Nat) (bo : Option Addr) (N cb : Nat) (l : List Int) (w : World) (h : IsSets w v n m) (hr : RefAt w ao n m) (hl : IntsAt w bo l) (hN : l.length = N) (hNs : N ≤ 1000) :
    Calls Try.prog 16 #[.pointer v, .slice ao n c, .slice bo N cb] w fun e w' => e = .returned (.bool true) ∧ Below w.heap.size w w' := by
  have hn := h.bound
  have HL := Nu.hid (fun W x (hb : Below w.heap.size w W) => least_any v n m x W (h.later hb))
  have HZ := Nu.hid (fun W x (hb : Below w.heap.size w W) => size_any v n m x W (h.later hb))
  have HS := Nu.hid (fun W x y (hb : Below w.heap.size w W) => same_any v n m x y W (h.later hb))
  have HC := Nu.hid (fun W (hb : Below w.heap.size w W) => count_any v n m W (h.later hb))
  have HRL := Nu.hid (fun W x (hb : Below w.heap.size w W) => rleast_any ao n c m x W (IntsAt.later hr hb))
  have HRZ := Nu.hid (fun W x (hb : Below w.heap.size w W) => rsize_any ao n c m x W (IntsAt.later hr hb) hn)
  have HRS := Nu.hid (fun W x y (hb : Below w.heap.size w W) => rsame5_any ao n c m x y W (IntsAt.later hr hb))
  have HRC := Nu.hid (fun W (hb : Below w.heap.size w W) => rcount_any ao n c m W (IntsAt.later hr hb) hn)
  have HI := Nu.hid hl
  have HN := Nu.hid hN
  clear h hr hl hN
  go_enter Try.func16, Try.ntmps16
  go_wp2
  go_loopw [13] (fun cv wr => ∃ k : Nat, k ≤ N ∧ cv = .int .i64 (k : Int) ∧ Below w.heap.size w wr) (fun cv _ => N - (intOf cv).toNat)
  case atStart => exact ⟨0, Nat.zero_le _, rfl, Below.refl _ _⟩
  case round =>
    obtain ⟨k, hk, rfl, hb⟩ := hrel
    obtain ⟨w0, rfl⟩ : ∃ w0, w0 = wr := ⟨wr, rfl⟩
    have HB := Nu.hid hb
    by_cases hlt : k < N
    · have hlti : (k : Int) < (N : Int) := by omega
      have hk0 : (0 : Int) ≤ (k : Int) := by omega
      obtain ⟨x, hx⟩ : ∃ x, l[k]? = some x := ⟨_, List.getElem?_eq_getElem (by have := HN.out; omega)⟩
      obtain ⟨b, o, rfl, c0⟩ := (HI.out.later hb) k x hx
      obtain ⟨lx, hlx⟩ : ∃ lx, Co.leastI n m x = lx := ⟨_, rfl⟩
      obtain ⟨sx, hsx⟩ : ∃ sx, Co.sizeI n m x = sx := ⟨_, rfl⟩
      have h1 := HL.out w0 x hb
      have h2 := fun q => HRL.out (w0.drewN q) x (below_drewN hb q)
      have h3 := fun q => HZ.out (w0.drewN q) x (below_drewN hb q)
      have h4 := fun q => HRZ.out (w0.drewN q) x (below_drewN hb q)
      rw [hlx] at h1 h2
      rw [hsx] at h3 h4
      have H1 := Nu.hid h1
      have H2 := Nu.hid h2
      have H3 := Nu.hid h3
      have H4 := Nu.hid h4
      have e1 : (lx != lx) = false := by simp
      have e2 : (sx != sx) = false := by simp
      clear hb hx hlx hsx h1 h2 h3 h4
      go_wp2_with (go_at_call 12; refine H1.out.mono ?_; rintro e w1 ⟨rfl, q1, rfl⟩; refine Hid.out ?_)
      refine Nu.hid ?_
      go_wp2_with (go_at_call 35; refine (H2.out _).mono ?_; rintro e w1 ⟨rfl, rfl⟩; refine Hid.out ?_)
      refine Nu.hid ?_
      go_wp2_with (go_at_call 29; refine (H3.out _).mono ?_; rintro e w1 ⟨rfl, q2, rfl⟩; refine Hid.out ?_)
      refine Nu.hid ?_
      go_wp2_with (go_at_call 36; refine (H4.out _).mono ?_; rintro e w5 ⟨rfl, hb5⟩; have HB5 := Nu.hid hb5; clear hb5; refine Hid.out ?_)
      refine Nu.hid ?_
      have HB6 : Hid (Below w.heap.size w w5) := HB.out.trans (Below.trans (below_drewN (Below.refl _ _) _) (HB5.out.mono HB.out.size))
      clear H1 H2 H3 H4 HB5 c0
      go_wp2
      go_loopw [35] (fun cv wx => ∃ j : Nat, j ≤ N ∧ cv = .int .i64 (j : Int) ∧ Below w.heap.size w wx) (fun cv _ => N - (intOf cv).toNat)
      case atStart => exact ⟨0, Nat.zero_le _, rfl, HB6.out⟩
      case round =>
        obtain ⟨j, hj, rfl, hbx⟩ := hrel
        have HBX := Nu.hid hbx
        by_cases hjl : j < N
        · have hjli : (j : Int) < (N : Int) := by omega
          have hj0 : (0 : Int) ≤ (j : Int) := by omega
          obtain ⟨y, hy⟩ : ∃ y, l[j]? = some y := ⟨_, List.getElem?_eq_getElem (by have := HN.out; omega)⟩
          obtain ⟨b', o', e', c1⟩ := (HI.out.later hbx) j y hy
          cases e'
          obtain ⟨t, ht⟩ : ∃ t, Co.sameI n m x y = t := ⟨_, rfl⟩
          have h1 := HS.out wr x y hbx
          have h2 := fun q => HRS.out (wr.drewN q) x y (below_drewN hbx q)
          rw [ht] at h1 h2
          have H1 := Nu.hid h1
          have H2 := Nu.hid h2
          have e3 : (t != t) = false := by simp
          clear hbx hy ht h1 h2
          go_wp2_with (go_at_call 28; refine H1.out.mono ?_; rintro e w1 ⟨rfl, q1, rfl⟩; refine Hid.out ?_)
          refine Nu.hid ?_
          go_wp2_with (go_at_call 37; refine (H2.out _).mono ?_; rintro e w1 ⟨rfl, q2, rfl⟩; refine Hid.out ?_)
          refine Nu.hid ?_
          go_wp2
          go_roundw
          case rel => exact ⟨j + 1, by omega, by go_num, below_drewN HBX.out _⟩
          case measure => simp [intOf]; omega
        · have hjd : ¬ ((j : Int) < (N : Int)) := by omega
          clear hbx
          go_wp2
          go_roundw
          case rel => exact ⟨k + 1, by omega, by go_num, HBX.out⟩
          case measure => simp [intOf]; omega
    · have hd : ¬ ((k : Int) < (N : Int)) := by omega
      have H1 := Nu.hid (HC.out w0 hb)
      have H2 := Nu.hid (HRC.out w0 hb)
      clear hb
      go_wp2_with (first | (go_at_call 11; refine H1.out.mono ?_; rintro e w1 ⟨rfl, hw1⟩; obtain rfl := hw1.symm) | (go_at_call 38; refine H2.out.mono ?_; rintro e w1 ⟨rfl, hw1⟩; obtain rfl := hw1.symm))
      go_ret
      exact ⟨by simp, HB.out⟩

end Go.Proofs.Ytoaaihbeehpgfaa
