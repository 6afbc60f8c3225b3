/-
  Half: the half-edge from one vertex to another, by halving.
-/
import Derived.Test.YtlnkcebfnamdcaaCsGet2
namespace Go.Proofs.Ytlnkcebfnamdcaa
open Go.RowKit Go.Sort

set_option maxRecDepth 100000 in
set_option maxHeartbeats 2000000 in
/-- What the halving asks at a half-edge. -/
theorem half1_any (v : Value) (n : Nat) (es : List (Int × Int)) (Ba i : Nat) (y : Int) (w : World) (h : IsAdj w v n es) (hb : w.cell? ⟨Ba, 0, none⟩ = some v) (hi : i < 2 * es.length) :
    Calls Try.prog 30 #[.int .i64 i, .int .i64 y, .pointer (some ⟨Ba, 0, none⟩)] w fun e w' => e = .returned (.int .i64 (Si.cmpInt (Cs.to es i) y)) ∧ w' = w := by
  rcases h with ⟨rfl, rfl, rfl⟩ | ⟨B, p, rfl, hv, gd, gs, gh, gp, gt, h⟩
  · simp at hi
  · have c4 := h.blk.c4
    have d0 := h.goes i hi
    have hc := fun W => cmpInt_any (Cs.to es i) y W
    have HC := Nu.hid hc
    have i0 : (0 : Int) ≤ (i : Int) := by omega
    have i1 : (i : Int) < 2 * (es.length : Int) := by omega
    have hfew := hv.few
    clear h hv hc
    go_enter Try.func30, Try.ntmps30
    go_wp2_with (go_at_call 31; refine (HC.out _).mono ?_; rintro e w1 ⟨rfl, rfl⟩)
    go_ret
    exact ⟨rfl, rfl⟩

/-- What halving answers. -/
def FoundAt (zs : List Int) (cf : Int → Int) (lo : Nat) : Prop :=
  lo ≤ zs.length ∧ (∀ (t : Nat) (z : Int), t < lo → zs[t]? = some z → cf z < 0) ∧ (∀ (t : Nat) (z : Int), lo ≤ t → zs[t]? = some z → 0 ≤ cf z)

def BinPost (zs : List Int) (cf : Int → Int) (w : World) (e : Ending) (w' : World) : Prop :=
  ∃ lo : Nat, FoundAt zs cf lo ∧ e = .returned (.tuple #[.int .i64 lo, .bool (match zs[lo]? with | some z => decide (cf z = 0) | none => false)]) ∧ w' = w

set_option maxRecDepth 100000 in
set_option maxHeartbeats 4000000 in
theorem bin_any (ao : Option Addr) (cap Ba : Nat) (zs : List Int) (cf : Int → Int) (y : Int) (w : World) (hl : zs.length ≤ 8388608) (hz : IntsAt w ao zs)
    (hc : ∀ (t : Nat) (z : Int), zs[t]? = some z → Calls Try.prog 30 #[.int .i64 z, .int .i64 y, .pointer (some ⟨Ba, 0, none⟩)] w fun e w' => e = .returned (.int .i64 (cf z)) ∧ w' = w)
    (hm : ∀ (a b : Nat) (x z : Int), a ≤ b → zs[a]? = some x → zs[b]? = some z → cf z < 0 → cf x < 0) :
    Calls Try.prog 29 #[.slice ao zs.length cap, .int .i64 y, .func (.func 30) #[] #[.pointer (some ⟨Ba, 0, none⟩)]] w (BinPost zs cf w) := by
  have HC := Nu.hid hc
  have HZ := Nu.hid hz
  have HM := Nu.hid hm
  clear hc hz hm
  go_enter Try.func29, Try.ntmps29
  go_wp2
  go_loopw [9, 10] (fun p q wr => ∃ lo hi : Nat, p = .int .i64 lo ∧ q = .int .i64 hi ∧ lo ≤ hi ∧ hi ≤ zs.length ∧ (∀ (t : Nat) (z : Int), t < lo → zs[t]? = some z → cf z < 0) ∧ (∀ (t : Nat) (z : Int), hi ≤ t → zs[t]? = some z → 0 ≤ cf z) ∧ wr = w) (fun p q _ => (intOf q).toNat - (intOf p).toNat)
  case atStart => exact ⟨0, zs.length, rfl, rfl, Nat.zero_le _, Nat.le_refl _, fun t z h => (by omega), fun t z h h2 => (by rw [List.getElem?_eq_none h] at h2; cases h2), rfl⟩
  case round =>
    obtain ⟨lo, hi, rfl, rfl, h1, h2, hA, hB, rfl⟩ := hrel
    have HA := Nu.hid hA
    have HB := Nu.hid hB
    by_cases hlt : lo < hi
    · have hlti : (lo : Int) < (hi : Int) := by omega
      obtain ⟨m, hm⟩ : ∃ m, m = (lo + hi) / 2 := ⟨_, rfl⟩
      obtain ⟨z, hz⟩ : ∃ z, zs[m]? = some z := ⟨_, List.getElem?_eq_getElem (by omega)⟩
      obtain ⟨b, o, rfl, hcell⟩ := HZ.out m z hz
      have hcall := HC.out m z hz
      have hmi : ((lo : Int) + (hi : Int)) / 2 = (m : Int) := by omega
      have hm0 : (0 : Int) ≤ (m : Int) := by omega
      have hm1 : (m : Int) < (zs.length : Int) := by omega
      have hml : m < zs.length := by omega
      have hm2 : lo ≤ m ∧ m < hi := by omega
      have HM2 := Nu.hid hm2
      have HZM := Nu.hid hz
      clear hA hB hz hm hm2
      by_cases hlz : cf z < 0
      · generalize hcz : cf z = r at hcall hlz
        have HCZ := Nu.hid hcz
        clear hcz
        go_wp2_with (go_at_call 30; refine hcall.mono ?_; rintro e w1 ⟨rfl, rfl⟩)
        go_roundw
        case rel =>
          exact ⟨m + 1, hi, by go_num, rfl, by have := HM2.out; omega, h2, fun t u ht hu => HM.out t m u z (by omega) hu HZM.out (by rw [HCZ.out]; exact hlz), HB.out, trivial⟩
        case measure => have := HM2.out; simp [intOf]; omega
      · have hlz' : 0 ≤ cf z := by omega
        generalize hcz : cf z = r at hcall hlz hlz'
        have HCZ := Nu.hid hcz
        clear hcz
        go_wp2_with (go_at_call 30; refine hcall.mono ?_; rintro e w1 ⟨rfl, rfl⟩)
        go_roundw
        case rel =>
          refine ⟨lo, m, rfl, by go_num, HM2.out.1, by omega, HA.out, fun t u ht hu => ?_, trivial⟩
          rcases Int.lt_or_le (cf u) 0 with h | h
          · have := HM.out m t z u ht HZM.out hu h
            rw [HCZ.out] at this
            omega
          · exact h
        case measure => have := HM2.out; simp [intOf]; omega
    · have hd : ¬ ((lo : Int) < (hi : Int)) := by omega
      obtain rfl : lo = hi := by omega
      have HF : Hid (FoundAt zs cf lo) := ⟨h2, HA.out, HB.out⟩
      clear hA hB
      by_cases hlz : lo < zs.length
      · obtain ⟨z, hz⟩ : ∃ z, zs[lo]? = some z := ⟨_, List.getElem?_eq_getElem hlz⟩
        obtain ⟨b, o, rfl, hcell⟩ := HZ.out lo z hz
        have hcall := HC.out lo z hz
        have hl0 : (0 : Int) ≤ (lo : Int) := by omega
        have hl1 : (lo : Int) < (zs.length : Int) := by omega
        have hbo : Hid ((match zs[lo]? with | some z => decide (cf z = 0) | none => false) = (cf z == 0)) := by
          show _ = _
          rw [hz]
          by_cases h : cf z = 0 <;> simp [h]
        clear hz
        generalize cf z = r at hcall hbo
        go_wp2_with (go_at_call 30; refine hcall.mono ?_; rintro e w1 ⟨rfl, rfl⟩)
        go_ret2
        exact ⟨lo, HF.out, by rw [hbo.out]; rfl, rfl⟩
      · have hl1 : ¬ ((lo : Int) < (zs.length : Int)) := by omega
        have hbo : Hid ((match zs[lo]? with | some z => decide (cf z = 0) | none => false) = false) := by
          show _ = _
          rw [List.getElem?_eq_none (by omega)]
        go_wp2
        go_ret2
        exact ⟨lo, HF.out, by rw [hbo.out]; rfl, rfl⟩

def HalfPost (n : Nat) (es : List (Int × Int)) (x y : Int) (w : World) (e : Ending) (w' : World) : Prop :=
  ((∃ i : Nat, i ∈ Cs.outI n es x ∧ (Cs.to es i : Int) = y ∧ e = .returned (.tuple #[.int .i64 i, .bool true])) ∨ ((∀ i ∈ Cs.outI n es x, (Cs.to es i : Int) ≠ y) ∧ e = .returned (.tuple #[.int .i64 0, .bool false]))) ∧ Below w.heap.size w w'

theorem Cs.cmp_neg {x y : Int} : Si.cmpInt x y < 0 ↔ x < y := by
  unfold Si.cmpInt
  split
  · simp; omega
  · split <;> simp <;> omega
theorem Cs.cmp_zero {x y : Int} : Si.cmpInt x y = 0 ↔ x = y := by
  unfold Si.cmpInt
  split
  · simp; omega
  · split <;> simp <;> omega

theorem Cs.outI_in_lt {n : Nat} {es : List (Int × Int)} {x : Int} {i : Nat} (h : i ∈ Cs.outI n es x) : i < 2 * es.length := by
  unfold Cs.outI at h
  split at h
  · obtain ⟨j, hj⟩ := List.mem_iff_getElem?.1 h
    exact (Cs.out_of hj).1
  · simp at h

/-- By the vertices that they lead to they rise. -/
theorem Cs.outI_rises {n : Nat} {es : List (Int × Int)} (hv : Si.Val n es) {x : Int} {a b i j : Nat} (hab : a < b) (hi : (Cs.outI n es x)[a]? = some i) (hj : (Cs.outI n es x)[b]? = some j) : Cs.to es i < Cs.to es j := by
  unfold Cs.outI at hi hj
  split at hi
  · rename_i hx
    rw [if_pos hx] at hj
    have h1 := Cs.out_of hi
    have h2 := Cs.out_of hj
    exact Cs.to_rises hv (Cs.out_rises hab hi hj) h2.1 (h1.2.1.trans h2.2.1.symm)
  · simp at hi

theorem IsAdj.ptr {w : World} {v : Value} {n : Nat} {es : List (Int × Int)} (h : IsAdj w v n es) : ∃ q, v = .pointer q := by
  rcases h with ⟨rfl, _⟩ | ⟨B, p, rfl, _⟩ <;> exact ⟨_, rfl⟩

set_option maxRecDepth 100000 in
set_option maxHeartbeats 4000000 in
theorem half_any (v : Value) (n : Nat) (es : List (Int × Int)) (x y : Int) (w : World) (h : IsAdj w v n es) : Calls Try.prog 14 #[v, .int .i64 x, .int .i64 y] w (HalfPost n es x y w) := by
  obtain ⟨q, rfl⟩ := h.ptr
  have hbd := h.bounds
  have hzl : (Cs.outZ n es x).length ≤ 8388608 := by
    rw [Cs.outZ_len]
    have := Cs.outI_len_le (n := n) (es := es) (v := x)
    omega
  obtain ⟨W0, hW0⟩ : ∃ W0, W0 = w.alloc (.cells #[.pointer q] 27) := ⟨_, rfl⟩
  have hB0 : Below w.heap.size w W0 := by rw [hW0]; exact (Below.refl _ _).alloc (Nat.le_refl _) _
  have hbx : W0.cell? ⟨w.heap.size, 0, none⟩ = some (.pointer q) := by rw [hW0]; simp
  have HL := Nu.hid (leaving_any (.pointer q) n es x w W0 h hB0)
  have hfin : ∀ (k : Nat) (ao : Option Addr) (cap : Nat), IntsAt w ao (Cs.outZ n es x) → Calls Try.prog 29 #[.slice ao (Cs.outZ n es x).length cap, .int .i64 y, .func (.func 30) #[] #[.pointer (some ⟨w.heap.size, 0, none⟩)]] (W0.drewN k) (BinPost (Cs.outZ n es x) (fun z => Si.cmpInt (Cs.to es z.toNat) y) (W0.drewN k)) := fun k ao cap hi => by
    have hbk : Below w.heap.size w (W0.drewN k) := below_drewN hB0 k
    refine bin_any ao cap w.heap.size (Cs.outZ n es x) (fun z => Si.cmpInt (Cs.to es z.toNat) y) y (W0.drewN k) hzl (hi.later hbk) (fun t z hz => ?_) (fun a b p1 q1 hab hp hq hneg => ?_)
    · unfold Cs.outZ at hz
      rw [List.getElem?_map] at hz
      obtain ⟨i, hi', rfl⟩ := Option.map_eq_some_iff.1 hz
      exact half1_any (.pointer q) n es w.heap.size i y (W0.drewN k) (h.later hbk) hbx (Cs.outI_in_lt (List.mem_of_getElem? hi'))
    · unfold Cs.outZ at hp hq
      rw [List.getElem?_map] at hp hq
      obtain ⟨i, hi', rfl⟩ := Option.map_eq_some_iff.1 hp
      obtain ⟨j, hj', rfl⟩ := Option.map_eq_some_iff.1 hq
      rw [Cs.cmp_neg] at hneg ⊢
      simp only [Int.toNat_natCast] at hneg ⊢
      by_cases e : a = b
      · subst e
        rw [hi'] at hj'
        cases hj'
        exact hneg
      · rcases h with ⟨_, rfl, rfl⟩ | ⟨B, p, _, hv, _⟩
        · unfold Cs.outI at hi'; split at hi'
          · rename_i hx; omega
          · simp at hi'
        · have := Cs.outI_rises hv (by omega) hi' hj'
          omega
  have hend : ∀ lo : Nat, FoundAt (Cs.outZ n es x) (fun z => Si.cmpInt (Cs.to es z.toNat) y) lo → (∃ i : Nat, (Cs.outI n es x)[lo]? = some i ∧ (Cs.to es i : Int) = y) ∨ ((∀ i ∈ Cs.outI n es x, (Cs.to es i : Int) ≠ y) ∧ (match (Cs.outZ n es x)[lo]? with | some z => decide (Si.cmpInt (Cs.to es z.toNat) y = 0) | none => false) = false) := by
    rintro lo ⟨h1, h2, h3⟩
    have hmap : ∀ t, (Cs.outZ n es x)[t]? = ((Cs.outI n es x)[t]?).map fun i : Nat => (i : Int) := fun t => by unfold Cs.outZ; rw [List.getElem?_map]
    by_cases hex : ∃ i : Nat, (Cs.outI n es x)[lo]? = some i ∧ (Cs.to es i : Int) = y
    · exact .inl hex
    · refine .inr ⟨fun i hi hy => ?_, ?_⟩
      · obtain ⟨t, ht⟩ := List.mem_iff_getElem?.1 hi
        rcases Nat.lt_trichotomy t lo with hlt | heq | hgt
        · have := h2 t (i : Int) hlt (by rw [hmap, ht]; rfl)
          rw [Cs.cmp_neg] at this
          simp only [Int.toNat_natCast] at this
          omega
        · subst heq
          exact hex ⟨i, ht, hy⟩
        · have htl := (List.getElem?_eq_some_iff.1 ht).1
          obtain ⟨j, hj⟩ : ∃ j, (Cs.outI n es x)[lo]? = some j := ⟨_, List.getElem?_eq_getElem (by omega)⟩
          have h4 := h3 lo (j : Int) (Nat.le_refl _) (by rw [hmap, hj]; rfl)
          have h5 : ¬ (Si.cmpInt (Cs.to es (j : Int).toNat) y < 0) := by dsimp only at h4; omega
          rw [Cs.cmp_neg] at h5
          simp only [Int.toNat_natCast] at h5
          rcases h with ⟨_, rfl, rfl⟩ | ⟨B, p, _, hv, _⟩
          · unfold Cs.outI at hj; split at hj
            · rename_i hx; omega
            · simp at hj
          · have := Cs.outI_rises hv hgt hj ht
            omega
      · rw [hmap]
        cases hc : (Cs.outI n es x)[lo]? with
        | none => rfl
        | some i =>
          simp only [Option.map_some, Int.toNat_natCast]
          refine decide_eq_false fun h => hex ⟨i, hc, Cs.cmp_zero.1 h⟩
  have hcellz : ∀ (ao : Option Addr) (lo i : Nat), IntsAt w ao (Cs.outZ n es x) → (Cs.outI n es x)[lo]? = some i → ∃ b o : Nat, ao = some ⟨b, o, none⟩ ∧ w.cell? ⟨b, o + lo, none⟩ = some (.int .i64 (i : Int)) ∧ lo < (Cs.outZ n es x).length ∧ (Cs.outZ n es x)[lo]? = some (i : Int) := fun ao lo i ha hi => by
    have hz : (Cs.outZ n es x)[lo]? = some (i : Int) := by unfold Cs.outZ; rw [List.getElem?_map, hi]; rfl
    obtain ⟨b, o, e, hc⟩ := ha lo _ hz
    exact ⟨b, o, e, hc, (List.getElem?_eq_some_iff.1 hz).1, hz⟩
  have hlea := leaving_any (.pointer q) n es x w W0 h hB0
  obtain ⟨Z, hZ⟩ : ∃ Z, Z = Cs.outZ n es x := ⟨_, rfl⟩
  obtain ⟨L, hL⟩ : ∃ L, L = Z.length := ⟨_, rfl⟩
  unfold LeavPost at hlea
  rw [← hZ] at hlea hfin hend hcellz hzl
  rw [← hL] at hlea hfin hcellz hzl
  have HLEA := Nu.hid hlea
  have HCELL := Nu.hid hcellz
  have HFIN := Nu.hid hfin
  have HEND := Nu.hid hend
  have HB0 := Nu.hid hB0
  clear hfin hend hB0 h hcellz hlea HL hL hZ
  subst hW0
  go_enter Try.func14, Try.ntmps14
  go_wp2_with (go_at_call 28; refine HLEA.out.mono ?_; rintro e w1 ⟨ao, cap, rfl, hi, k, hw⟩; refine Hid.out ?_)
  refine Nu.hid ?_
  subst hw
  have HI := Nu.hid hi
  have HBN2 := Nu.hid (HFIN.out k ao cap hi)
  have HB1 := Nu.hid (below_drewN HB0.out k)
  clear hi HFIN hbx
  go_wp2_with (go_at_call 29; refine Hid.out ?_)
  refine Nu.hid ?_
  refine HBN2.out.mono ?_
  rintro e w2 ⟨lo, hf, rfl, hw2⟩
  obtain ⟨bv, hbv⟩ : ∃ bv, bv = (match Z[lo]? with | some z => decide (Si.cmpInt (Cs.to es z.toNat) y = 0) | none => false) := ⟨_, rfl⟩
  rw [← hbv]
  subst hw2
  rcases HEND.out lo hf with ⟨i, hi, hy⟩ | ⟨hno, hbf⟩
  · obtain ⟨b, o, rfl, hc, hlt, hz⟩ := HCELL.out ao lo i HI.out hi
    have hbt : bv = true := by
      rw [hbv, hz]
      simp only [Int.toNat_natCast]
      exact decide_eq_true (Cs.cmp_zero.2 hy)
    have hc2 := (HB1.out.cell (p := ⟨b, o + lo, none⟩) (block_lt_of_cell hc)).trans hc
    have l0 : (0 : Int) ≤ (lo : Int) := by omega
    have l1 : (lo : Int) < (L : Int) := by omega
    have HY := Nu.hid hy
    have HIN := Nu.hid (List.mem_of_getElem? hi)
    subst hbt
    clear hf hbv hy hi hc hz
    go_wp2
    go_ret2
    exact ⟨.inl ⟨i, HIN.out, HY.out, rfl⟩, HB1.out⟩
  · rw [hbf] at hbv
    subst hbv
    have HNO := Nu.hid hno
    clear hf hno hbf
    go_wp2
    go_ret2
    exact ⟨.inr ⟨HNO.out, rfl⟩, HB1.out⟩

end Go.Proofs.Ytlnkcebfnamdcaa
