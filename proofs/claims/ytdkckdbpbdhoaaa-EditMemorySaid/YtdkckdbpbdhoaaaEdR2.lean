/-
  The document's own order, and put.
-/
import Derived.Test.YtdkckdbpbdhoaaaEdR1
namespace Go.Proofs.Ytdkckdbpbdhoaaa
open Go.RowKit Go.Sort

set_option maxHeartbeats 1000000 in
theorem rless_any (a b : Int × Int) (w : World) : Calls Try.prog 54 #[edgeVal a, edgeVal b] w fun e w' => e = .returned (.bool (decide (Si.lt a b))) ∧ ∃ q os', w' = grow (w.drewN q) os' := by
  unfold edgeVal
  by_cases h1 : a.1 < b.1
  · have hd : decide (Si.lt a b) = true := by simp [Si.lt, h1]
    rw [hd]
    go_enter Try.func54, Try.ntmps54
    go_wp2
    go_ret
    exact ⟨rfl, 0, _, by rw [alloc_eq_grow, alloc_eq_grow, grow_grow]; rfl⟩
  · by_cases h2 : a.1 = b.1
    · by_cases h3 : a.2 < b.2
      · have hd : decide (Si.lt a b) = true := by simp [Si.lt, h2, h3]
        rw [hd]
        go_enter Try.func54, Try.ntmps54
        go_wp2
        go_ret
        exact ⟨rfl, 0, _, by rw [alloc_eq_grow, alloc_eq_grow, grow_grow]; rfl⟩
      · have hd : decide (Si.lt a b) = false := by simp [Si.lt, h1, h3]
        rw [hd]
        go_enter Try.func54, Try.ntmps54
        go_wp2
        go_ret
        exact ⟨rfl, 0, _, by rw [alloc_eq_grow, alloc_eq_grow, grow_grow]; rfl⟩
    · have hd : decide (Si.lt a b) = false := by simp [Si.lt, h1, h2]
      rw [hd]
      go_enter Try.func54, Try.ntmps54
      go_wp2
      go_ret
      exact ⟨rfl, 0, _, by rw [alloc_eq_grow, alloc_eq_grow, grow_grow]; rfl⟩


theorem Ed.stand : ∀ (l : List (Int × Int)) (e : Int × Int), ∃ i, i ≤ l.length ∧ (∀ (j : Nat) (x : Int × Int), j < i → l[j]? = some x → Si.lt x e) ∧ ∀ x, l[i]? = some x → ¬ Si.lt x e
  | [], e => ⟨0, Nat.le_refl _, fun j x h => by omega, fun x h => by simp at h⟩
  | y :: l, e => by
    by_cases h : Si.lt y e
    · obtain ⟨i, h1, h2, h3⟩ := Ed.stand l e
      refine ⟨i + 1, by simpa using h1, fun j x hj hx => ?_, fun x hx => h3 x (by simpa using hx)⟩
      cases j with
      | zero => simp at hx; subst hx; exact h
      | succ j => exact h2 j x (by omega) (by simpa using hx)
    · exact ⟨0, Nat.zero_le _, fun j x h => by omega, fun x hx => by simp at hx; subst hx; exact h⟩

theorem Ed.put_last {l : List (Int × Int)} {e x : Int × Int} (hs : l.Pairwise Si.lt) (hx : l[l.length - 1]? = some x) (h : Si.lt x e) : Si.put l e = l ++ [e] := by
  have hl : l.length - 1 < l.length := (List.getElem?_eq_some_iff.1 hx).1
  have := Si.put_at l e l.length (Nat.le_refl _) (fun j y hj hy => by
    rw [List.pairwise_iff_getElem] at hs
    obtain ⟨a, ea⟩ := List.getElem?_eq_some_iff.1 hy
    obtain ⟨b, eb⟩ := List.getElem?_eq_some_iff.1 hx
    by_cases hjl : j = l.length - 1
    · subst hjl
      rw [ea] at eb
      rw [eb]
      exact h
    · have := hs j (l.length - 1) a b (by omega)
      rw [ea, eb] at this
      exact Si.lt_trans this h) (fun y hy => by rw [List.getElem?_eq_none (Nat.le_refl _)] at hy; cases hy)
  rw [this, List.getElem?_eq_none (Nat.le_refl _)]
  simp

theorem Ed.ins_len {l : List (Int × Int)} {i k : Nat} {t : Int × Int} (hk : i ≤ k) (hkl : k ≤ l.length) : (l.take i ++ t :: (l.drop i).take (k - i)).length = k + 1 := by
  simp
  omega
theorem Ed.ins_more {l : List (Int × Int)} {i k : Nat} {t p : Int × Int} (hk : i ≤ k) (hp : l[k]? = some p) : l.take i ++ t :: (l.drop i).take (k + 1 - i) = (l.take i ++ t :: (l.drop i).take (k - i)) ++ [p] := by
  have e : k + 1 - i = (k - i) + 1 := by omega
  have hkl : k < l.length := (List.getElem?_eq_some_iff.1 hp).1
  have hd : (l.drop i)[k - i]? = some p := by rw [List.getElem?_drop]; rw [← hp]; congr 1; omega
  rw [e, List.append_assoc, List.cons_append]
  congr 2
  have hlt : k - i < (l.drop i).length := (List.getElem?_eq_some_iff.1 hd).1
  rw [List.take_succ_eq_append_getElem hlt]
  rw [List.getElem?_eq_getElem hlt] at hd
  cases hd
  rfl

/-- What put has laid by the first k. -/
def Ed.ins (l : List (Int × Int)) (t : Int × Int) (i k : Nat) : List (Int × Int) := if i < k then l.take i ++ t :: (l.drop i).take (k - i) else l.take k
theorem Ed.ins_length {l : List (Int × Int)} {t : Int × Int} {i k : Nat} (hk : k ≤ l.length) : (Ed.ins l t i k).length ≤ k + 1 := by
  unfold Ed.ins
  split
  · rw [Ed.ins_len (by omega) hk]; exact Nat.le_refl _
  · rw [List.length_take]; omega
theorem Ed.ins_lo {l : List (Int × Int)} {t p : Int × Int} {i k : Nat} (hp : l[k]? = some p) (h : k < i) : Ed.ins l t i (k + 1) = Ed.ins l t i k ++ [p] := by
  unfold Ed.ins
  rw [if_neg (by omega), if_neg (by omega), Si.take_snoc hp]
theorem Ed.ins_at {l : List (Int × Int)} {t p : Int × Int} {i : Nat} (hp : l[i]? = some p) : Ed.ins l t i (i + 1) = (Ed.ins l t i i ++ [t]) ++ [p] := by
  unfold Ed.ins
  rw [if_pos (by omega), if_neg (by omega), Ed.ins_more (Nat.le_refl _) hp]
  simp
theorem Ed.ins_hi {l : List (Int × Int)} {t p : Int × Int} {i k : Nat} (hp : l[k]? = some p) (h : i < k) : Ed.ins l t i (k + 1) = Ed.ins l t i k ++ [p] := by
  unfold Ed.ins
  rw [if_pos (by omega), if_pos h, Ed.ins_more (by omega) hp]

set_option maxRecDepth 100000 in
set_option maxHeartbeats 8000000 in
theorem rput_any (B : Nat) (lv : Value) (l : List (Int × Int)) (x y : Int) (w : World) (hown : OwnE w B lv l) (hB : B ≤ w.heap.size) (hl : l.length ≤ 16777216) (hs : l.Pairwise Si.lt) (hnew : Si.norm (x, y) ∉ l) :
    Calls Try.prog 42 #[lv, .int .i64 x, .int .i64 y] w fun e w' => ∃ v', e = .returned v' ∧ OwnE w' B v' (Si.put l (Si.norm (x, y))) ∧ Below B w w' := by
  obtain ⟨lo, lc, rfl, _, _, hle, hlb⟩ := hown.form
  obtain ⟨t1, t2, ht⟩ : ∃ t1 t2, Si.norm (x, y) = (t1, t2) := ⟨_, _, rfl⟩
  have HT : Hid ((min x y, max x y) = (t1, t2)) := ht
  have HT2 : Hid (((if y < x then y else x), (if x < y then y else x)) = (t1, t2)) := by
    rw [← ht]
    unfold Si.norm
    exact Prod.ext (by simp; split <;> omega) (by simp; split <;> omega)
  rw [ht] at hnew ⊢
  have HE := Nu.hid hle
  have HLB := Nu.hid hlb
  have HOWN := Nu.hid hown
  have HS := Nu.hid hs
  have HNEW := Nu.hid hnew
  have hm1 : min x y = t1 := congrArg Prod.fst HT.out
  have hm2 : max x y = t2 := congrArg Prod.snd HT.out
  have hm3 : (if y < x then y else x) = t1 := congrArg Prod.fst HT2.out
  have hm4 : (if x < y then y else x) = t2 := congrArg Prod.snd HT2.out
  clear hle hlb hown hs hnew ht
  go_enter Try.func42, Try.ntmps42
  go_wp2
  have HBX : Hid ((w.alloc (.cells #[.int .i64 t1, .int .i64 t2] 26)).heap[w.heap.size]? = some (.cells #[.int .i64 t1, .int .i64 t2] 26 (0, 0))) := heap_alloc_new w _
  have HB1 : Hid (Below w.heap.size w (w.alloc (.cells #[.int .i64 t1, .int .i64 t2] 26))) := (Below.refl _ _).alloc (Nat.le_refl _) _
  clear hm1 hm2 hm3 hm4
  generalize w.alloc (.cells #[.int .i64 t1, .int .i64 t2] 26) = w1 at HBX HB1 ⊢
  have hs1 := lt_of_block HBX.out
  obtain ⟨e0, e1, -⟩ := pair_cells HBX.out
  by_cases hl0 : l.length = 0
  · have hln : l = [] := List.length_eq_zero_iff.1 hl0
    have HPUT : Hid (Si.put l (t1, t2) = l ++ [(t1, t2)]) := by rw [hln]; exact rfl
    have hz : ((l.length : Int) == 0) = true := by simp [hl0]
    clear hl0 hln
    go_quiet (fail)
    have HBX2 : Hid ((w1.drewN nq).heap[w.heap.size]? = some (.cells #[.int .i64 t1, .int .i64 t2] 26 (0, 0))) := HBX.out
    have HB2 : Hid (Below B w (w1.drewN nq)) := below_drewN (HB1.out.mono hB) nq
    have HOWN2 : Hid (OwnE (w1.drewN nq) B (.slice lo l.length lc) l) := HOWN.out.below (below_drewN HB1.out nq) (Nat.le_refl _)
    clear e0 e1
    generalize w1.drewN nq = w2 at HBX2 HB2 HOWN2 ⊢
    have hsw2 := lt_of_block HBX2.out
    have hs2 : B ≤ w2.heap.size := by omega
    obtain ⟨e0, e1, -⟩ := pair_cells HBX2.out
    go_wp2_with (at_builtin; refine wpList_pushE rfl _ _ rfl _ B _ l t1 t2 HOWN2.out hs2 (by omega) rfl rfl ?_; refine Hid.out ?_)
    refine Nu.hid ?_
    intro v' w3 hrow3 hb3
    have HROW3 := Nu.hid hrow3
    have HB3 := Nu.hid (HB2.out.trans hb3)
    clear hrow3 hb3
    go_wp2
    go_ret
    exact ⟨_, rfl, by rw [HPUT.out]; exact HROW3.out, HB3.out⟩
  · have hz : ((l.length : Int) == 0) = false := by
      have : ¬ ((l.length : Int) = 0) := by omega
      simpa using this
    obtain ⟨k, hk⟩ : ∃ k : Nat, (l.length : Int) - 1 = (k : Int) := ⟨l.length - 1, by omega⟩
    have hkk : l.length - 1 = k := by omega
    have hk0 : (0 : Int) ≤ (k : Int) := by omega
    have hk1 : (k : Int) < (l.length : Int) := by omega
    obtain ⟨p, hp⟩ : ∃ p, l[k]? = some p := ⟨_, List.getElem?_eq_getElem (by omega)⟩
    obtain ⟨p1, p2⟩ := p
    obtain ⟨b, o, rfl, hcc, _⟩ := HE.out k _ hp
    have hbw : b < w.heap.size := block_lt_of_cell hcc
    have HC : Hid (∀ W, Below w.heap.size w W → EdgesAt W (some ⟨b, o, none⟩) l) := fun W hb => HE.out.later hb
    obtain ⟨b', o', eb, c0, c1⟩ := HC.out _ HB1.out k _ hp
    cases eb
    dsimp only at c0 c1
    have hbl : b < w1.heap.size := by omega
    have hwk : IntKind.i64.wrap (k : Int) = (k : Int) := wrap_small _ (by omega) (by omega)
    have hca := fun W => rless_any (p1, p2) (t1, t2) W
    unfold edgeVal at hca
    dsimp only at hca
    have HCA := Nu.hid hca
    have HP := Nu.hid hp
    have HKK := Nu.hid hkk
    clear hca hp hcc hkk
    by_cases hlt : Si.lt (p1, p2) (t1, t2)
    · have HPUT : Hid (Si.put l (t1, t2) = l ++ [(t1, t2)]) := Ed.put_last HS.out (by rw [HKK.out]; exact HP.out) hlt
      have hdl : decide (Si.lt (p1, p2) (t1, t2)) = true := by simp [hlt]
      rw [hdl] at HCA
      clear hlt hdl
      go_region_held3 (fun w' => w'.cell? ⟨b, o + k * 2, none⟩ = some (.int .i64 p1) ∧ w'.cell? ⟨b, o + k * 2 + 1, none⟩ = some (.int .i64 p2) ∧ w'.cell? ⟨w.heap.size, 0, none⟩ = some (.int .i64 t1) ∧ w'.cell? ⟨w.heap.size, 1, none⟩ = some (.int .i64 t2))
        (first
          | (go_keep; done)
          | (go_split_ands
             (try dsimp only); (repeat' apply And.intro) <;> (refine (hb2.cell (p := ⟨_, _, none⟩) ?_).trans ?_ <;> first | assumption | (simp; omega))))
        ((go_at_call 54; refine (HCA.out _).mono ?_; rintro e w2 ⟨rfl, hgr⟩; have hb2 : Below w1.heap.size w1 w2 := (Below.refl w1.heap.size w1).drew.trans (below_grow hgr)))
      have HBX2 := Nu.hid ((hb2.block _ hs1).trans HBX.out)
      have HB2 : Hid (Below B w w2) := (HB1.out.mono hB).trans (hb2.mono (by omega))
      have HOWN2 : Hid (OwnE w2 B (.slice (some ⟨b, o, none⟩) l.length lc) l) := (HOWN.out.below HB1.out (Nat.le_refl _)).below hb2 (Nat.le_refl _)
      have hs2 : B ≤ w2.heap.size := by have := hb2.size; omega
      have hsw2 := lt_of_block HBX2.out
      clear hb2 hgr c0 c1 e0 e1
      obtain ⟨e0, e1, -⟩ := pair_cells HBX2.out
      go_wp2_with (at_builtin; refine wpList_pushE rfl _ _ rfl _ B _ l t1 t2 HOWN2.out hs2 (by omega) rfl rfl ?_; refine Hid.out ?_)
      refine Nu.hid ?_
      intro v' w3 hrow3 hb3
      have HROW3 := Nu.hid hrow3
      have HB3 := Nu.hid (HB2.out.trans hb3)
      clear hrow3 hb3
      go_wp2
      go_ret
      exact ⟨_, rfl, by rw [HPUT.out]; exact HROW3.out, HB3.out⟩
    · have hdl : decide (Si.lt (p1, p2) (t1, t2)) = false := by simp [hlt]
      rw [hdl] at HCA
      obtain ⟨i, hi1, hi2, hi3⟩ := Ed.stand l (t1, t2)
      have hil : i < l.length := by
        rcases Nat.lt_or_ge i l.length with h | h
        · exact h
        · exact absurd (hi2 k _ (by omega) HP.out) hlt
      have HPUT : Hid (Si.put l (t1, t2) = Ed.ins l (t1, t2) i l.length) := by
        have h1 := Si.put_at l (t1, t2) i hi1 hi2 hi3
        rw [if_neg (fun h => HNEW.out (List.mem_of_getElem? h))] at h1
        show _ = _
        rw [h1]
        unfold Ed.ins
        rw [if_pos hil]
        congr 2
        exact (List.take_of_length_le (by simp)).symm
      have HI2 := Nu.hid hi2
      have HI3 := Nu.hid hi3
      clear hlt hdl hi2 hi3
      go_region_held3 (fun w' => w'.cell? ⟨b, o + k * 2, none⟩ = some (.int .i64 p1) ∧ w'.cell? ⟨b, o + k * 2 + 1, none⟩ = some (.int .i64 p2) ∧ w'.cell? ⟨w.heap.size, 0, none⟩ = some (.int .i64 t1) ∧ w'.cell? ⟨w.heap.size, 1, none⟩ = some (.int .i64 t2))
        (first
          | (go_keep; done)
          | (go_split_ands
             (try dsimp only); (repeat' apply And.intro) <;> (refine (hb2.cell (p := ⟨_, _, none⟩) ?_).trans ?_ <;> first | assumption | (simp; omega))))
        ((go_at_call 54; refine (HCA.out _).mono ?_; rintro e w2 ⟨rfl, hgr⟩; have hb2 : Below w1.heap.size w1 w2 := (Below.refl w1.heap.size w1).drew.trans (below_grow hgr)))
      have HBX2 := Nu.hid ((hb2.block _ hs1).trans HBX.out)
      have HB2 : Hid (Below w.heap.size w w2) := HB1.out.trans (hb2.mono (by omega))
      have hsw2 := lt_of_block HBX2.out
      clear hb2 hgr c0 c1 e0 e1 HCA HP HKK
      go_wp2
      go_loopw [8, 9, 10] (fun v dn c wr => ∃ (k : Nat) (L : List (Int × Int)) (bb : Bool), k ≤ l.length ∧ c = .int .i64 k ∧ dn = .bool bb ∧ bb = decide (i < k) ∧ L = Ed.ins l (t1, t2) i k ∧ OwnE wr (w.heap.size + 1) v L ∧ wr.heap[w.heap.size]? = some (.cells #[.int .i64 t1, .int .i64 t2] 26 (0, 0)) ∧ Below w.heap.size w wr) (fun _ _ c _ => l.length - (intOf c).toNat)
      case atStart => exact ⟨0, [], false, Nat.zero_le _, rfl, rfl, by simp, by simp [Ed.ins], OwnE.nil _ _, HBX2.out, HB2.out⟩
      case round =>
        obtain ⟨j, L, bb, hj, rfl, rfl, hbb, hL, hrow, hbx, hb⟩ := hrel
        have HROW := Nu.hid hrow
        have HB := Nu.hid hb
        have HBXR := Nu.hid hbx
        have HL := Nu.hid hL
        have HBB := Nu.hid hbb
        have hLl : L.length ≤ j + 1 := by rw [hL]; exact Ed.ins_length hj
        have hsw := lt_of_block hbx
        have hsw1 : w.heap.size + 1 ≤ wr.heap.size := hsw
        obtain ⟨e0, e1, -⟩ := pair_cells hbx
        by_cases hjl : j < l.length
        · have hjli : (j : Int) < (l.length : Int) := by omega
          have hj0 : (0 : Int) ≤ (j : Int) := by omega
          obtain ⟨q, hq⟩ : ∃ q, l[j]? = some q := ⟨_, List.getElem?_eq_getElem hjl⟩
          obtain ⟨b', o', eb, c0, c1⟩ := HC.out _ hb j _ hq
          cases eb
          have hblr : b < wr.heap.size := block_lt_of_cell c0
          obtain ⟨q1, q2⟩ := q
          dsimp only at c0 c1
          have hca := fun W => rless_any (t1, t2) (q1, q2) W
          unfold edgeVal at hca
          dsimp only at hca
          have HCA := Nu.hid hca
          have HQ := Nu.hid hq
          clear hrow hb hbx hL hbb hq hca
          rcases Nat.lt_trichotomy j i with hji | hji | hji
          · -- ahead of its place
            have hdl : decide (Si.lt (t1, t2) (q1, q2)) = false := by
              have := HI2.out j _ hji HQ.out
              simp [Si.lt_asymm this]
            rw [hdl] at HCA
            have hbb : bb = false := by rw [HBB.out]; simp; omega
            subst hbb
            have HIN := Nu.hid (Ed.ins_lo (t := (t1, t2)) HQ.out hji)
            clear hdl
            go_wp2
            go_region_held3 (fun w' => w'.cell? ⟨b, o + j * 2, none⟩ = some (.int .i64 q1) ∧ w'.cell? ⟨b, o + j * 2 + 1, none⟩ = some (.int .i64 q2) ∧ w'.cell? ⟨w.heap.size, 0, none⟩ = some (.int .i64 t1) ∧ w'.cell? ⟨w.heap.size, 1, none⟩ = some (.int .i64 t2))
              (first
                | (go_keep; done)
                | (go_split_ands
                   (try dsimp only); (repeat' apply And.intro) <;> (refine (hb2.cell (p := ⟨_, _, none⟩) ?_).trans ?_ <;> first | assumption | (simp; omega))))
              ((go_at_call 54; refine (HCA.out _).mono ?_; rintro e w2 ⟨rfl, hgr⟩; have hb2 : Below wr.heap.size wr w2 := (Below.refl wr.heap.size wr).drew.trans (below_grow hgr)))
            have HBX2 := Nu.hid ((hb2.block _ hsw).trans HBXR.out)
            have HB2 := Nu.hid (HB.out.trans (hb2.mono HB.out.size))
            have HROW2 := Nu.hid (HROW.out.below hb2 (Nat.le_refl _))
            have d0 := (hb2.cell (p := ⟨b, o + j * 2, none⟩) hblr).trans c0
            have d1 := (hb2.cell (p := ⟨b, o + j * 2 + 1, none⟩) hblr).trans c1
            have hs2 : w.heap.size + 1 ≤ w2.heap.size := Nat.le_trans hsw1 hb2.size
            have hbl2 : b < w2.heap.size := by omega
            clear hb2 hgr c0 c1 e0 e1
            go_wp2_with (at_builtin; refine wpList_pushE rfl _ _ rfl _ (w.heap.size + 1) _ L q1 q2 HROW2.out hs2 (by omega) rfl rfl ?_; refine Hid.out ?_)
            refine Nu.hid ?_
            intro v' w3 hrow3 hb3
            have HROW3 := Nu.hid hrow3
            have HBX3 := Nu.hid ((hb3.block _ (by omega)).trans HBX2.out)
            have HB3 := Nu.hid (HB2.out.trans (hb3.mono (by omega)))
            clear hrow3 hb3
            go_wp2
            go_roundw
            case rel => exact ⟨j + 1, _, false, by omega, by go_num, rfl, by simp; omega, by rw [HIN.out, HL.out], HROW3.out, HBX3.out, HB3.out⟩
            case measure => simp [intOf]; omega
          · -- at its place
            have hlt2 : Si.lt (t1, t2) (q1, q2) := by
              rcases Si.lt_total (t1, t2) (q1, q2) with h | h | h
              · exact h
              · exact absurd (List.mem_of_getElem? (h ▸ HQ.out)) HNEW.out
              · exact absurd h (HI3.out _ (by rw [← hji]; exact HQ.out))
            have hdl : decide (Si.lt (t1, t2) (q1, q2)) = true := by simp [hlt2]
            rw [hdl] at HCA
            have hbb : bb = false := by rw [HBB.out]; simp; omega
            subst hbb
            have HIN : Hid (Ed.ins l (t1, t2) i (j + 1) = (L ++ [(t1, t2)]) ++ [(q1, q2)]) := by
              have h := Ed.ins_at (t := (t1, t2)) (i := j) HQ.out
              show _ = _
              rw [HL.out, ← hji]
              exact h
            have HJI := Nu.hid hji
            clear hdl hlt2 hji
            go_wp2
            go_region_held3 (fun w' => w'.cell? ⟨b, o + j * 2, none⟩ = some (.int .i64 q1) ∧ w'.cell? ⟨b, o + j * 2 + 1, none⟩ = some (.int .i64 q2) ∧ w'.cell? ⟨w.heap.size, 0, none⟩ = some (.int .i64 t1) ∧ w'.cell? ⟨w.heap.size, 1, none⟩ = some (.int .i64 t2))
              (first
                | (go_keep; done)
                | (go_split_ands
                   (try dsimp only); (repeat' apply And.intro) <;> (refine (hb2.cell (p := ⟨_, _, none⟩) ?_).trans ?_ <;> first | assumption | (simp; omega))))
              ((go_at_call 54; refine (HCA.out _).mono ?_; rintro e w2 ⟨rfl, hgr⟩; have hb2 : Below wr.heap.size wr w2 := (Below.refl wr.heap.size wr).drew.trans (below_grow hgr)))
            have HBX2 := Nu.hid ((hb2.block _ hsw).trans HBXR.out)
            have HB2 := Nu.hid (HB.out.trans (hb2.mono HB.out.size))
            have HROW2 := Nu.hid (HROW.out.below hb2 (Nat.le_refl _))
            have hs2 : w.heap.size + 1 ≤ w2.heap.size := Nat.le_trans hsw1 hb2.size
            have hsw2' := lt_of_block HBX2.out
            clear hb2 hgr c0 c1 e0 e1
            obtain ⟨e0, e1, -⟩ := pair_cells HBX2.out
            go_wp2_with (at_builtin; refine wpList_pushE rfl _ _ rfl _ (w.heap.size + 1) _ L t1 t2 HROW2.out hs2 (by omega) rfl rfl ?_; refine Hid.out ?_)
            refine Nu.hid ?_
            intro v' w3 hrow3 hb3
            have HROW3 := Nu.hid hrow3
            have HBX3 := Nu.hid ((hb3.block _ (by omega)).trans HBX2.out)
            have HB3 := Nu.hid (HB2.out.trans (hb3.mono (by omega)))
            have hs3 : w.heap.size + 1 ≤ w3.heap.size := Nat.le_trans hs2 hb3.size
            clear hrow3 hb3 e0 e1
            obtain ⟨b', o', eb, d0, d1⟩ := HC.out _ HB3.out j _ HQ.out
            cases eb
            dsimp only at d0 d1
            have hbl3 : b < w3.heap.size := by omega
            go_wp2_with (at_builtin; refine wpList_pushE rfl _ _ rfl _ (w.heap.size + 1) _ (L ++ [(t1, t2)]) q1 q2 HROW3.out hs3 (by simp; omega) rfl rfl ?_; refine Hid.out ?_)
            refine Nu.hid ?_
            intro v4 w4 hrow4 hb4
            have HROW4 := Nu.hid hrow4
            have HBX4 := Nu.hid ((hb4.block _ (by omega)).trans HBX3.out)
            have HB4 := Nu.hid (HB3.out.trans (hb4.mono (by omega)))
            clear hrow4 hb4
            go_wp2
            go_roundw
            case rel => exact ⟨j + 1, _, true, by omega, by go_num, rfl, by have := HJI.out; simp; omega, by rw [HIN.out, List.append_assoc]; rfl, HROW4.out, HBX4.out, HB4.out⟩
            case measure => simp [intOf]; omega
          · -- behind
            have hbb : bb = true := by rw [HBB.out]; simp; omega
            subst hbb
            have HIN := Nu.hid (Ed.ins_hi (t := (t1, t2)) HQ.out hji)
            go_wp2
            go_quiet (fail)
            have HBX2 : Hid ((wr.drewN nq).heap[w.heap.size]? = some (.cells #[.int .i64 t1, .int .i64 t2] 26 (0, 0))) := HBXR.out
            have HB2 := Nu.hid (below_drewN HB.out nq)
            have HROW2 : Hid (OwnE (wr.drewN nq) (w.heap.size + 1) u8 L) := HROW.out
            have hs2 : w.heap.size + 1 ≤ (wr.drewN nq).heap.size := hsw1
            clear c0 c1 e0 e1
            generalize wr.drewN nq = w2 at HBX2 HB2 HROW2 hs2 ⊢
            obtain ⟨b', o', eb, d0, d1⟩ := HC.out _ HB2.out j _ HQ.out
            cases eb
            dsimp only at d0 d1
            have hbl2 : b < w2.heap.size := by omega
            go_wp2_with (at_builtin; refine wpList_pushE rfl _ _ rfl _ (w.heap.size + 1) _ L q1 q2 HROW2.out hs2 (by omega) rfl rfl ?_; refine Hid.out ?_)
            refine Nu.hid ?_
            intro v' w3 hrow3 hb3
            have HROW3 := Nu.hid hrow3
            have HBX3 := Nu.hid ((hb3.block _ (by omega)).trans HBX2.out)
            have HB3 := Nu.hid (HB2.out.trans (hb3.mono (by omega)))
            clear hrow3 hb3
            go_wp2
            go_roundw
            case rel => exact ⟨j + 1, _, true, by omega, by go_num, rfl, by simp; omega, by rw [HIN.out, HL.out], HROW3.out, HBX3.out, HB3.out⟩
            case measure => simp [intOf]; omega
        · have hd : ¬ ((j : Int) < (l.length : Int)) := by omega
          have hjl' : j = l.length := by omega
          have HLE : Hid (L = Si.put l (t1, t2)) := by
            show _ = _
            rw [hL, hjl', HPUT.out]
          clear hrow hb hbx hL hbb hjl'
          go_wp2
          go_ret
          exact ⟨_, rfl, by rw [← HLE.out]; exact HROW.out.lower (by omega), HB.out.mono hB⟩

end Go.Proofs.Ytdkckdbpbdhoaaa
