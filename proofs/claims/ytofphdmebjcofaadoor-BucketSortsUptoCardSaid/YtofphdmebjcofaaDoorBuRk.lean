/-
  ranks: by place, where it comes to stand.
-/
import Derived.Test.YtofphdmebjcofaaDoorBuCnt
namespace Go.Proofs.YtofphdmebjcofaaDoor
open Go.RowKit

/-- F tells of each key below K how many keys are smaller, and how many of the first i are equal. -/
structure Bu.Free (ks : List Int) (i K : Nat) (F : List Int) : Prop where
  len : F.length = K
  put : ∀ k, k < K → F[k]? = some ((Bu.less ks (k : Int) + (ks.take i).count (k : Int) : Nat) : Int)

theorem Bu.Free.step {ks : List Int} {i K k : Nat} {F : List Int} (h : Bu.Free ks i K F) (hi : ks[i]? = some (k : Int)) (hk : k < K) : Bu.Free ks (i + 1) K (F.set k ((Bu.rk ks i : Int) + 1)) := by
  refine ⟨by rw [List.length_set]; exact h.len, fun j hj => ?_⟩
  rw [List.getElem?_set, Bu.count_take_succ hi, Bu.rk_eq hi]
  by_cases e : k = j
  · subst e
    rw [if_pos rfl, if_pos (by rw [h.len]; exact hk), if_pos rfl]
    congr 1
  · rw [if_neg e, if_neg (by omega), h.put j hj]
    congr 1

/-- The first k of the counts have been turned to how many keys are smaller. -/
structure Bu.Half (ks : List Int) (k K : Nat) (F : List Int) : Prop where
  len : F.length = K
  lo : ∀ j, j < k → F[j]? = some (Bu.less ks (j : Int) : Int)
  hi : ∀ j, k ≤ j → j < K → F[j]? = some (ks.count (j : Int) : Int)

theorem Bu.Half.step {ks : List Int} {k K : Nat} {F : List Int} (h : Bu.Half ks k K F) (hk : k < K) : Bu.Half ks (k + 1) K (F.set k (Bu.less ks (k : Int) : Int)) := by
  refine ⟨by rw [List.length_set]; exact h.len, fun j hj => ?_, fun j hj hjK => ?_⟩
  · rw [List.getElem?_set]
    by_cases e : k = j
    · subst e; rw [if_pos rfl, if_pos (by rw [h.len]; exact hk)]
    · rw [if_neg e, h.lo j (by omega)]
  · rw [List.getElem?_set, if_neg (by omega), h.hi j (by omega) hjK]

def RkPost (ks : List Int) (w : World) (e : Ending) (w' : World) : Prop :=
  ∃ g : Nat, e = .returned (.slice (some ⟨g, 0, none⟩) ks.length ks.length) ∧ w.heap.size ≤ g ∧ IntsBlk w' g (Bu.ranks ks) ∧ Below w.heap.size w w'

theorem IntsBlk.other {w : World} {g : Nat} {l : List Int} (h : IntsBlk w g l) {b i : Nat} (hb : g ≠ b) (x : Value) : IntsBlk (w.setCell ⟨b, i, none⟩ x) g l := (heap_setCell_other w ⟨b, i, none⟩ g x hb).trans h

theorem take_set_succ {α : Type} {l R : List α} {i : Nat} {x : α} (hl : R.length = l.length) (h : ∀ j, j < i → R[j]? = l[j]?) (hx : l[i]? = some x) : ∀ j, j < i + 1 → (R.set i x)[j]? = l[j]? := fun j hj => by
  have hil := (List.getElem?_eq_some_iff.1 hx).1
  rw [List.getElem?_set]
  by_cases e : i = j
  · subst e; rw [if_pos rfl, if_pos (by omega), hx]
  · rw [if_neg e, h j (by omega)]

set_option maxRecDepth 100000 in
set_option maxHeartbeats 8000000 in
theorem ranks_any (ao : Option Addr) (ca n : Nat) (ks : List Int) (w : World) (hn : ks.length = n) (hl : n ≤ 17592186043904) (ha : IntsAt w ao ks) (hin : Bu.In 4194304 ks) :
    Calls Tryd.prog 18 #[.slice ao n ca] w (RkPost ks w) := by
  obtain ⟨i0, hi, hz0, hz1, hz2⟩ := info_parts Tryd.infoNum
  have HM := Nu.hid (counts_any ao ca n ks w hn hl ha 4194304 (by decide) hin)
  have HA := Nu.hid ha
  have HN := Nu.hid hn
  have HIN := Nu.hid hin
  clear ha hn hin
  by_cases h0 : n = 0
  · subst h0
    have HM0 : Hid (Calls Tryd.prog 23 #[.slice ao 0 ca] w fun e w' => e = .returned (.slice none 0 0) ∧ w' = w) := HM.out.mono (by
      rintro e w1 (⟨-, h1, h2⟩ | ⟨g, K, C, h1, -⟩)
      · exact ⟨h1, h2⟩
      · have := HN.out; omega)
    clear HM
    go_enter Tryd.func18, Tryd.ntmps18
    go_wp2_with (go_at_call 23; refine HM0.out.mono ?_; rintro e w1 ⟨rfl, hw1⟩; obtain rfl := hw1.symm; refine Hid.out ?_)
    refine Nu.hid ?_
    go_wp2
    go_loopw [4, 14] (fun a c wr => c = .int .i64 0 ∧ wr = w) (fun _ c _ => 0)
    case atStart => exact ⟨rfl, rfl⟩
    case round =>
      obtain ⟨rfl, rfl⟩ := hrel
      go_wp2_with (at_make; refine wpList_make_full _ rfl _ _ 22 rfl wr.heap.size 3 i0 (.int .i64 0) 1 Tryd.underlying22 hi hz0 hz1 _ _ _ _ 0 rfl rfl rfl rfl (by rw [hz2]; omega) (by unfold maxLen; omega) (Nat.le_refl _) ?_; refine Hid.out ?_)
      refine Nu.hid ?_
      intro w2 hrow hg2
      rw [made_zeros] at hrow
      have HI2 := Nu.hid (ints_of_row hrow)
      have HB2 : Hid (Below wr.heap.size wr w2) := (Below.refl _ _).grown hg2 (Nat.le_refl _) (fun j hj => by cases hj)
      clear hrow hg2
      go_wp2
      go_loopw [32] (fun c wx => c = .int .i64 0 ∧ wx = w2) (fun c _ => 0)
      case atStart => exact ⟨rfl, rfl⟩
      case round =>
        obtain ⟨rfl, rfl⟩ := hrel
        go_wp2
        go_ret
        refine ⟨_, by rw [HN.out]; rfl, Nat.le_refl _, ?_, HB2.out⟩
        have : Bu.ranks ks = [] := List.length_eq_zero_iff.1 (by rw [Bu.ranks_length, HN.out])
        rw [this]
        exact HI2.out
  · have HM0 : Hid (Calls Tryd.prog 23 #[.slice ao n ca] w fun e w' => ∃ (g K : Nat) (C : List Int), e = .returned (.slice (some ⟨g, 0, none⟩) K K) ∧ w.heap.size ≤ g ∧ g < w'.heap.size ∧ IntsIn w' g C ∧ Bu.Cnt ks ks.length K C ∧ (K : Int) ≤ 4194304 + 1 ∧ (∀ z ∈ ks, z < (K : Int)) ∧ Below w.heap.size w w') := HM.out.mono (by
      rintro e w1 (⟨h1, -⟩ | ⟨g, K, C, -, h⟩)
      · exact absurd (by rw [← HN.out, h1]; rfl) h0
      · exact ⟨g, K, C, h⟩)
    clear HM
    go_enter Tryd.func18, Tryd.ntmps18
    go_wp2_with (go_at_call 23; refine HM0.out.mono ?_; rintro e w1 ⟨g, K, C, rfl, hg, hgl, hiC, hC, hK, htop, hb1⟩; refine Hid.out ?_)
    refine Nu.hid ?_
    have HTOP := Nu.hid htop
    have HB1 := Nu.hid hb1
    have H0 : Hid (Bu.Half ks 0 K C) := ⟨hC.len, fun j hj => by omega, fun j _ hj => by have := hC.put j hj; rw [List.take_length] at this; exact this⟩
    have HIC1 := Nu.hid hiC
    have HZ : Hid (Bu.less ks 0 = 0) := Bu.less_zero HIN.out
    clear htop hb1 hC hiC HM0
    go_wp2
    go_loopw [4, 14] (fun a c wr => ∃ (k : Nat) (F : List Int), k ≤ K ∧ c = .int .i64 k ∧ a = .int .i64 (Bu.less ks (k : Int) : Int) ∧ Bu.Half ks k K F ∧ IntsIn wr g F ∧ Below w.heap.size w wr) (fun _ c _ => K - (intOf c).toNat)
    case atStart => exact ⟨0, C, Nat.zero_le _, rfl, by rw [show ((0 : Nat) : Int) = 0 by rfl, HZ.out]; rfl, H0.out, HIC1.out, HB1.out⟩
    case round =>
      obtain ⟨k, F, hkK, rfl, rfl, hF, hiF, hb⟩ := hrel
      have hsz := hiF.lt
      have HF := Nu.hid hF
      have HIF := Nu.hid hiF
      have HB := Nu.hid hb
      have hll := Bu.less_le ks (k : Int)
      rw [HN.out] at hll
      by_cases hlt : k < K
      · have hk0 : (0 : Int) ≤ (k : Int) := by omega
        have hk1 : (k : Int) < (K : Int) := by omega
        have hcnt := hF.hi k (Nat.le_refl _) hlt
        have hcl : ks.count (k : Int) ≤ n := by rw [← HN.out]; exact List.count_le_length
        have HSTEP := Nu.hid (hF.step hlt)
        have hls := Bu.less_succ ks (k : Int)
        obtain ⟨q, hq⟩ : ∃ q, ks.count (k : Int) = q := ⟨_, rfl⟩
        obtain ⟨r, hr⟩ : ∃ r, Bu.less ks (k : Int) = r := ⟨_, rfl⟩
        rw [hq] at hcnt hcl hls
        rw [hr] at hll hls HSTEP ⊢
        have HLS : Hid (Bu.less ks ((k + 1 : Nat) : Int) = r + q) := by
          have e : ((k + 1 : Nat) : Int) = (k : Int) + 1 := by omega
          show _ = _
          rw [e]
          exact hls
        have HSET := Nu.hid (hiF.set (i := k) (by rw [hF.len]; exact hlt) (r : Int))
        have HBN := Nu.hid (hb.setCell (p := ⟨g, k, none⟩) (by exact hg) (.int .i64 (r : Int)))
        have c1 := hiF.cell hcnt
        have f1 := hiF.free k
        clear hF hiF hb hcnt hq hr hls
        go_wp2
        go_roundw
        case rel => exact ⟨k + 1, _, by omega, by go_num, by rw [HLS.out]; go_num, HSTEP.out, HSET.out, HBN.out⟩
        case measure => simp [intOf]; omega
      · have hd : ¬ ((k : Int) < (K : Int)) := by omega
        obtain rfl : k = K := by omega
        have H1 : Hid (Bu.Free ks 0 k F) := ⟨hF.len, fun j hj => by rw [hF.lo j hj]; simp⟩
        clear hF hiF hb
        go_wp2_with (at_make; refine wpList_make_full _ rfl _ _ 22 rfl wr.heap.size 3 i0 (.int .i64 0) 1 Tryd.underlying22 hi hz0 hz1 _ _ _ _ n rfl rfl rfl rfl (by rw [hz2]; omega) (by unfold maxLen; omega) (Nat.le_refl _) ?_; refine Hid.out ?_)
        refine Nu.hid ?_
        intro w2 hrow hg2
        rw [made_zeros] at hrow
        have HI2 := Nu.hid (ints_of_row hrow)
        have hb2 : Below wr.heap.size wr w2 := (Below.refl _ _).grown hg2 (Nat.le_refl _) (fun j hj => by cases hj)
        have HIF2 := Nu.hid (HIF.out.later hb2)
        have HB2 := Nu.hid (HB.out.trans (hb2.mono HB.out.size))
        have hsw := HB.out.size
        obtain ⟨G, hG⟩ : ∃ G, G = wr.heap.size := ⟨_, rfl⟩
        rw [← hG] at HI2 hsz hsw ⊢
        have hgG : g ≠ G := by omega
        have hGg : G ≠ g := by omega
        clear hrow hg2 hb2 HIF H0 HIC1 hG
        go_wp2
        go_loopw [32] (fun c wx => ∃ (i : Nat) (F R : List Int), i ≤ n ∧ c = .int .i64 i ∧ Bu.Free ks i k F ∧ R.length = n ∧ (∀ j, j < i → R[j]? = (Bu.ranks ks)[j]?) ∧ IntsIn wx g F ∧ IntsBlk wx G R ∧ Below w.heap.size w wx) (fun c _ => n - (intOf c).toNat)
        case atStart => exact ⟨0, F, _, Nat.zero_le _, rfl, H1.out, by simp, fun j hj => by omega, HIF2.out, HI2.out, HB2.out⟩
        case round =>
          obtain ⟨i, F', R, hin, rfl, hF, hRl, hR, hiF, hiR, hb⟩ := hrel
          have HR := Nu.hid hR
          have HIR := Nu.hid hiR
          have HB3 := Nu.hid hb
          by_cases hlt : i < n
          · have hk0 : (0 : Int) ≤ (i : Int) := by omega
            have hk1 : (i : Int) < (n : Int) := by omega
            obtain ⟨x, hx⟩ : ∃ x, ks[i]? = some x := ⟨_, List.getElem?_eq_getElem (by have := HN.out; omega)⟩
            have hx0 := HIN.out x (List.mem_of_getElem? hx)
            have hx1 := HTOP.out x (List.mem_of_getElem? hx)
            obtain ⟨z, rfl⟩ : ∃ z : Nat, x = (z : Int) := ⟨x.toNat, by omega⟩
            have hzk : z < k := by omega
            obtain ⟨b, o, rfl, c0⟩ := (HA.out.later HB3.out) i _ hx
            have hcnt := hF.put z hzk
            rw [← Bu.rk_eq hx] at hcnt
            have hrl := Bu.rk_lt (ks := ks) (i := i) (by rw [HN.out]; exact hlt)
            rw [HN.out] at hrl
            have hra := Bu.ranks_at (ks := ks) (i := i) (by rw [HN.out]; exact hlt)
            have HSTEP := Nu.hid (hF.step hx hzk)
            obtain ⟨q, hq⟩ : ∃ q, Bu.rk ks i = q := ⟨_, rfl⟩
            rw [hq] at hcnt hrl HSTEP hra
            obtain ⟨y, hy⟩ : ∃ y, R[i]? = some y := ⟨_, List.getElem?_eq_getElem (by omega)⟩
            have HR2 := Nu.hid (take_set_succ (by rw [hRl, Bu.ranks_length, HN.out]) hR hra)
            have c1 := hiF.cell hcnt
            have c2 := hiR.cell hy
            have f2 := hiR.free i
            have hF2 := hiF.other (i := i) hgG (.int .i64 (q : Int))
            have hR2 := hiR.set i (q : Int)
            have c3 := hF2.cell hcnt
            have f3 := hF2.free z
            have HF3 := Nu.hid (hF2.set (i := z) (by rw [hF.len]; exact hzk) ((q : Int) + 1))
            have HR3 := Nu.hid (hR2.other (i := z) hGg (.int .i64 ((q : Int) + 1)))
            have HB4 := Nu.hid ((hb.setCell (p := ⟨G, i, none⟩) (by show _ ≤ G; omega) (.int .i64 (q : Int))).setCell (p := ⟨g, z, none⟩) (by exact hg) (.int .i64 ((q : Int) + 1)))
            have z0 : (0 : Int) ≤ (z : Int) := by omega
            have z1 : (z : Int) < (k : Int) := by omega
            have HRL : Hid ((R.set i (q : Int)).length = n) := by show _ = _; simp [hRl]
            clear hF hiF hiR hb hR hx hcnt hq hra hy hF2 hR2
            go_wp2
            go_roundw
            case rel => exact ⟨i + 1, _, _, by omega, by go_num, HSTEP.out, HRL.out, HR2.out, HF3.out, HR3.out, HB4.out⟩
            case measure => simp [intOf]; omega
          · have hd : ¬ ((i : Int) < (n : Int)) := by omega
            obtain rfl : i = n := by omega
            clear hF hiF hiR hb
            go_wp2
            go_ret
            refine ⟨G, by rw [HN.out]; rfl, hsw, ?_, HB3.out⟩
            have e : R = Bu.ranks ks := List.ext_getElem? fun j => by
              by_cases hj : j < i
              · exact HR.out j hj
              · rw [List.getElem?_eq_none (by omega), List.getElem?_eq_none (by rw [Bu.ranks_length, HN.out]; omega)]
            rw [← e]
            exact HIR.out

end Go.Proofs.YtofphdmebjcofaaDoor
