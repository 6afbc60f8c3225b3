/-
  Proved: for every graph and every list of numbers the law CsrAnswers answers true, and both read afterwards as before. No condition.
-/
import Derived.Test.YtlnkcebfnamdcaaCsAwake
import Derived.Test.YtlnkcebfnamdcaaCsRV
import Derived.Test.YtlnkcebfnamdcaaCsROut
import Derived.Test.YtlnkcebfnamdcaaCsBeyond
import Derived.Test.YtlnkcebfnamdcaaSiGin
import Derived.Test.YtlnkcebfnamdcaaKinInts
import Derived.Deep.RegionHeld3
import Derived.Deep.QuietTactic
import Derived.BigQuiet
namespace Go.Proofs.Ytlnkcebfnamdcaa
open Go.ChangeShapes Go.WideShapes Go.ChangeAt Go.RowKit
namespace lawAnswers

theorem row_ints {w : World} {a : Option Addr} {len cap : Nat} {zs : List Int} (h : IsRow .i64 8 w a len cap zs) : IntsAt w a (zs.take len) ∧ (zs.take len).length = len ∧ len ≤ 4611686018427387904 := by
  have htk := h.take
  have hsm := h.small
  refine ⟨fun j x hj => ?_, htk, by omega⟩
  rcases h with ⟨_, rfl, _, rfl⟩ | ⟨y, rfl, hl, hm, hz, hc, hw⟩
  · simp at hj
  · rw [List.getElem?_take] at hj
    split at hj
    · have hjl := (List.getElem?_eq_some_iff.1 hj).1
      have hcj := hc j hjl
      rw [List.getD_eq_getElem?_getD, hj] at hcj
      obtain ⟨b, o, s⟩ := y
      have hsp : s = none := by
        have h0 := hc 0 (by omega)
        simpa [Addr.add] using World.cell?_spot h0
      subst hsp
      have e : ((⟨b, o, none⟩ : Addr).add j) = ⟨b, o + j, none⟩ := by
        by_cases h0 : j = 0 <;> simp [Addr.add, h0]
      rw [e] at hcj
      exact ⟨b, o, rfl, hcj⟩
    · cases hj

theorem outz_at {m : Nat} {es : List (Int × Int)} {v i : Nat} (hv : v < m) {z : Int} (h : (Cs.outZ m es v)[i]? = some z) : ∃ j : Nat, z = (j : Int) ∧ j < 2 * es.length ∧ Cs.fr es j = v ∧ (Cs.out es v j).length = i := by
  unfold Cs.outZ at h
  rw [List.getElem?_map, Cs.outI_in hv] at h
  obtain ⟨j, hj, rfl⟩ := Option.map_eq_some_iff.1 h
  obtain ⟨h1, h2, h3⟩ := Cs.out_of hj
  exact ⟨j, rfl, h1, h2, h3⟩

theorem outm_outz {m : Nat} {es : List (Int × Int)} {v : Nat} (h : v < m) : Cs.outm es v (2 * es.length) = Cs.outZ m es v := by
  unfold Cs.outm Cs.outZ
  rw [Cs.outI_in h]

set_option maxRecDepth 100000 in
set_option maxHeartbeats 16000000 in
theorem walk (n : Int) (ao : Option Addr) (ca : Nat) (es : List (Int × Int)) (an : Option Addr) (ln cn : Nat) (zs : List Int) (w : World) (_ : -9223372036854775808 ≤ n ∧ n ≤ 9223372036854775807) (hq : PairsIn w ao es.length ca es) (hle : es.length * 16 ≤ 140737488351232)
    (hrow : IsRow .i64 8 w an ln cn zs) :
    Calls Try.prog 3 #[.agg #[.int .i64 n, .slice ao es.length ca], .slice an ln cn] w fun e w' => e = .returned (.bool true) ∧ Below w.heap.size w w' := by
  have HQ := Nu.hid hq
  have hadjc := fun W (hb : Below w.heap.size w W) => adj_any n ao ca es W (hq.hat.later hb) (fun h => (hq.hnil h).2) (by omega)
  have hvalid := fun W (hb : Below w.heap.size w W) => r4valid_any n ao ca es W (hq.hat.later hb) (by omega)
  unfold graphVal at hadjc hvalid
  obtain ⟨hin, hzl, _⟩ := row_ints hrow
  have HADJC := Nu.hid hadjc
  have HVALID := Nu.hid hvalid
  have HIN := Nu.hid hin
  have HZL := Nu.hid hzl
  clear hq hadjc hvalid hin hzl hrow
  have hb0 : Below w.heap.size w (w.alloc (.cells #[.int .i64 n, .slice ao es.length ca] 24)) := (Below.refl _ _).alloc (Nat.le_refl _) _
  have HB0 := Nu.hid hb0
  clear hb0
  go_enter Try.func3, Try.ntmps3
  -- the fixed fact
  go_wp2_with (go_at_call 7; refine (awake_any _).mono ?_; rintro e w1 ⟨rfl, hb⟩; refine Hid.out ?_)
  refine Nu.hid ?_
  have hG : w1.heap[w.heap.size]? = some (.cells #[.int .i64 n, .slice ao es.length ca] 24 (0, 0)) := (hb.block _ (by simp)).trans (heap_alloc_new w _)
  have HB1 := Nu.hid (HB0.out.trans (hb.mono HB0.out.size))
  have HG1 := Nu.hid hG
  obtain ⟨x0, x1, -⟩ := pair_cells hG
  have hs1 := lt_of_block hG
  clear hb hG
  -- the Adj
  go_wp2_with (go_at_call 8; refine (HADJC.out _ HB1.out).mono ?_; rintro e w2 ⟨q, z, rfl, hq, hb⟩; refine Hid.out ?_)
  refine Nu.hid ?_
  have HB2 := Nu.hid (HB1.out.trans (hb.mono HB1.out.size))
  have HG2 := Nu.hid ((hb.block _ hs1).trans HG1.out)
  have hs2 := hb.size
  have HNQ := Nu.hid hq
  clear x0 x1 hb hq HG1 HADJC
  obtain ⟨x0, x1, -⟩ := pair_cells HG2.out
  have hva := HVALID.out w2 HB2.out
  rcases HNQ.out.1 with ⟨m, p, hnm, hval, rfl, hadj⟩ | ⟨hv, rfl⟩
  rotate_left
  · rw [hv] at hva
    have HVA := Nu.hid hva
    have hz1 : z = 1 := HNQ.out.2.1 rfl
    subst hz1
    clear hv hva HVALID HNQ
    go_wp2_with (go_at_call 9; refine HVA.out.mono ?_; rintro e w12 ⟨rfl, hb12⟩)
    go_ret
    exact ⟨rfl, HB2.out.trans (hb12.mono HB2.out.size)⟩
  subst hnm
  have hz0 : z = 0 := HNQ.out.2.2 (by simp)
  subst hz0
  rw [Si.valid_iff.2 hval] at hva
  have HVA := Nu.hid hva
  have hfew := hval.few
  have hhi := hval.hi
  have HVAL := Nu.hid hval
  have hadj2 : IsAdj w2 (.pointer (some ⟨p, 0, none⟩)) m es := .inr ⟨_, p, rfl, hval, hadj⟩
  have HADJ2 := Nu.hid hadj2
  clear hva hval hadj hadj2 HNQ HVALID
  go_wp2_with (go_at_call 9; refine HVA.out.mono ?_; rintro e w3 ⟨rfl, hb3⟩; refine Hid.out ?_)
  refine Nu.hid ?_
  have HB3 := Nu.hid hb3
  have hs3 := hb3.size
  have HG3 := Nu.hid ((hb3.block _ (by omega)).trans HG2.out)
  have hN := fun k => aN_any _ m es (w3.drewN k) (HADJ2.out.later (below_drewN hb3 k))
  have hM := fun k => aM_any _ m es (w3.drewN k) (HADJ2.out.later (below_drewN hb3 k))
  have HN := Nu.hid hN
  have HM := Nu.hid hM
  have t1 : ((m : Int) != (m : Int)) = false := by simp
  have t2 : ((es.length : Int) != (es.length : Int)) = false := by simp
  clear hb3 hN hM x0 x1 HVA
  obtain ⟨x0, x1, -⟩ := pair_cells HG3.out
  go_wp2_with fail
  go_quiet ((first | (go_at_call 10; exact Calls.quiet_of_same (HN.out _)) | (go_at_call 11; exact Calls.quiet_of_same (HM.out _))))
  obtain ⟨W3, hW3⟩ : ∃ W3, W3 = w3.drewN nq := ⟨_, rfl⟩
  rw [← hW3]
  have HBW3 : Hid (Below w2.heap.size w2 W3) := by rw [hW3]; exact below_drewN HB3.out nq
  have HGW3 : Hid (W3.heap[w.heap.size]? = some (.cells #[.int .i64 (m : Int), .slice ao es.length ca] 24 (0, 0))) := by rw [hW3]; exact HG3.out
  clear hW3 x0 x1 HN HM t1 t2 HB3 HG3
  obtain ⟨x0, x1, -⟩ := pair_cells HGW3.out
  have hbw3 : Below w.heap.size w W3 := HB2.out.trans (HBW3.out.mono HB2.out.size)
  have HOUT := Nu.hid (rout_any m ao ca es W3 (HQ.out.hat.later hbw3) HVAL.out)
  clear hbw3
  go_wp2_with (go_at_call 12; refine HOUT.out.mono ?_; rintro e w4 ⟨G, vs, rfl, hvl, hrows, hGl, hb4⟩; refine Hid.out ?_)
  refine Nu.hid ?_
  have HB4 := Nu.hid (HBW3.out.trans (hb4.mono HBW3.out.size))
  have hs4 := hb4.size
  have hsW3 := HBW3.out.size
  have HG4 := Nu.hid ((hb4.block _ (lt_of_block HGW3.out)).trans HGW3.out)
  have HROWS := Nu.hid hrows
  have hGs := hrows.lt
  clear hb4 hrows x0 x1 HOUT HGW3
  go_wp2
  go_loopw [8] (fun cv wr => ∃ v : Nat, v ≤ m ∧ cv = .int .i64 v ∧ Below w4.heap.size w4 wr) (fun cv _ => m - (intOf cv).toNat)
  case atStart => exact ⟨0, Nat.zero_le _, rfl, Below.refl _ _⟩
  case round =>
    obtain ⟨v, hvm, rfl, hbr⟩ := hrel
    have HBR := Nu.hid hbr
    have hsr := hbr.size
    have hb2r : Below w2.heap.size w2 wr := HB4.out.trans (hbr.mono HB4.out.size)
    have HB2R := Nu.hid hb2r
    have hgr := (hbr.block w.heap.size (lt_of_block HG4.out)).trans HG4.out
    obtain ⟨x0, x1, -⟩ := pair_cells hgr
    have hsg := lt_of_block hgr
    by_cases hlt : v < m
    · have hlti : (v : Int) < (m : Int) := by omega
      have hv0 : (0 : Int) ≤ (v : Int) := by omega
      obtain ⟨vq, hvq⟩ : ∃ q, vs[v]? = some q := ⟨_, List.getElem?_eq_getElem (by omega)⟩
      have hrv := (HROWS.out.later hbr).row v vq hvq
      rw [outm_outz hlt] at hrv
      have cq := (HROWS.out.later hbr).cell hvq
      obtain ⟨al, cl, rfl, hat⟩ := outz_own (l := Cs.outZ m es v) (B := G + 1) hrv
      have hve := vertex_any _ m es v al cl wr (HADJ2.out.later hb2r) hat
      obtain ⟨Z, hZ⟩ : ∃ Z, Z = Cs.outZ m es v := ⟨_, rfl⟩
      obtain ⟨L, hL⟩ : ∃ L, L = Z.length := ⟨_, rfl⟩
      rw [← hZ] at hat hve cq
      rw [← hL] at hve cq
      have hLm : L ≤ 8388608 := by
        rw [hL, hZ, Cs.outZ_len]
        have := Cs.outI_len_le (n := m) (es := es) (v := (v : Int))
        omega
      have HVE := Nu.hid hve
      have HAT := Nu.hid hat
      have HCQ := Nu.hid cq
      have HZ := Nu.hid hZ
      have HL := Nu.hid hL
      clear hbr hb2r hgr hrv hve hat hZ hL hvq
      go_wp2_with (go_at_call 13; refine HVE.out.mono ?_; rintro e w5 ⟨rfl, hb5⟩; refine Hid.out ?_)
      refine Nu.hid ?_
      have hs5 := hb5.size
      have HB45 := Nu.hid (HBR.out.trans (hb5.mono hsr))
      have HB25 := Nu.hid (HB2R.out.trans (hb5.mono HB2R.out.size))
      have HG5 := Nu.hid ((HB45.out.block w.heap.size (lt_of_block HG4.out)).trans HG4.out)
      have HAT5 := Nu.hid (HAT.out.later hb5)
      have HCQ5 := Nu.hid ((hb5.cell (p := ⟨G, v, none⟩) (by show G < _; omega)).trans HCQ.out)
      clear hb5 x0 x1 cq HVE HAT HCQ
      go_wp2
      go_loopw [9] (fun cv wt => ∃ i : Nat, i ≤ L ∧ cv = .int .i64 i ∧ Below w5.heap.size w5 wt) (fun cv _ => L - (intOf cv).toNat)
      case atStart => exact ⟨0, Nat.zero_le _, rfl, Below.refl _ _⟩
      case round =>
        obtain ⟨i, hiL, rfl, hbt⟩ := hrel
        have HBT := Nu.hid hbt
        have hszt := hbt.size
        have hgt := (hbt.block w.heap.size (lt_of_block HG5.out)).trans HG5.out
        have hsgt := lt_of_block hgt
        have HGT := Nu.hid hgt
        obtain ⟨y0, y1, -⟩ := pair_cells hgt
        have cq := (hbt.cell (p := ⟨G, v, none⟩) (by show G < _; omega)).trans HCQ5.out
        by_cases hil : i < L
        · have hilt : (i : Int) < (L : Int) := by omega
          have hi0 : (0 : Int) ≤ (i : Int) := by omega
          obtain ⟨z, hz⟩ : ∃ z, Z[i]? = some z := ⟨_, List.getElem?_eq_getElem (by have := HL.out; omega)⟩
          have hat := HAT5.out.later hbt
          obtain ⟨b4, o4, rfl, hc4⟩ := hat i z hz
          obtain ⟨j, rfl, hjM, hjf, hjc⟩ := outz_at hlt (by rw [← HZ.out]; exact hz)
          obtain ⟨tj, htj⟩ : ∃ tj : Int, tj = (Cs.to es j : Int) := ⟨_, rfl⟩
          obtain ⟨NX, hNX⟩ : ∃ NX : Int, NX = Z.getD (i + 1) (-1) := ⟨_, rfl⟩
          have hb2t : Below w2.heap.size w2 wr := HB25.out.trans (hbt.mono HB25.out.size)
          have hbwt : Below w.heap.size w wr := HB2.out.trans (hb2t.mono HB2.out.size)
          have hb2s := hb2t.size
          have hbws := hbwt.size
          have hrt : ∀ V, Below wr.heap.size wr V → Calls Try.prog 15 #[.agg #[.int .i64 (m : Int), .slice ao es.length ca], .int .i64 (j : Int)] V fun e V' => e = .returned (.int .i64 tj) ∧ Below V.heap.size V V' := fun V hb => by
            rw [htj]
            exact r4to_any m ao ca es j V (HQ.out.hat.later (hbwt.trans (hb.mono hbws))) HVAL.out hjM
          have hhf : ∀ V, Below wr.heap.size wr V → Calls Try.prog 14 #[.pointer (some ⟨p, 0, none⟩), .int .i64 (v : Int), .int .i64 tj] V fun e V' => e = .returned (.tuple #[.int .i64 (j : Int), .bool true]) ∧ Below V.heap.size V V' := fun V hb => by
            have := half_by HVAL.out (x := (v : Int)) (y := tj) (r := (j : Int)) (.inl ⟨j, hjM, by rw [hjf], htj.symm, rfl⟩) (HADJ2.out.later (hb2t.trans (hb.mono hb2s)))
            rw [if_pos (by omega), decide_eq_true (by omega)] at this
            exact this
          have hfr : ∀ V, Below wr.heap.size wr V → Calls Try.prog 16 #[.pointer (some ⟨p, 0, none⟩), .int .i64 (j : Int)] V fun e V' => e = .returned (.int .i64 (v : Int)) ∧ Below V.heap.size V V' := fun V hb => by
            have := from_any _ m es j V (HADJ2.out.later (hb2t.trans (hb.mono hb2s)))
            rw [Cs.frI_in hjM, hjf] at this
            exact this.mono (fun r V' h => ⟨h.1, by rw [h.2]; exact Below.refl _ _⟩)
          have hto : ∀ V, Below wr.heap.size wr V → Calls Try.prog 17 #[.pointer (some ⟨p, 0, none⟩), .int .i64 (j : Int)] V fun e V' => e = .returned (.int .i64 tj) ∧ Below V.heap.size V V' := fun V hb => by
            have := to_any _ m es j V (HADJ2.out.later (hb2t.trans (hb.mono hb2s)))
            rw [Cs.toI_in hjM, ← htj] at this
            exact this.mono (fun r V' h => ⟨h.1, by rw [h.2]; exact Below.refl _ _⟩)
          have haf : ∀ V, Below wr.heap.size wr V → Calls Try.prog 18 #[.pointer (some ⟨p, 0, none⟩), .int .i64 (j : Int)] V fun e V' => e = .returned (.int .i64 NX) ∧ Below V.heap.size V V' := fun V hb => by
            have := after_any _ m es j V (HADJ2.out.later (hb2t.trans (hb.mono hb2s)))
            have e6 : Cs.afterI m es (j : Int) = Z.getD (i + 1) (-1) := by
              unfold Cs.afterI
              rw [if_pos ⟨by omega, by omega⟩, Int.toNat_natCast, hjf, hjc, HZ.out]
            rw [e6, ← hNX] at this
            exact this.mono (fun r V' h => ⟨h.1, by obtain ⟨k, hk⟩ := h.2; rw [hk]; exact below_drewN (Below.refl _ _) k⟩)
          have HRT := Nu.hid hrt
          have HHF := Nu.hid hhf
          have HFR := Nu.hid hfr
          have HTO := Nu.hid hto
          have HAF := Nu.hid haf
          have HNX := Nu.hid hNX
          have t1 : ((v : Int) != (v : Int)) = false := by simp
          have t2 : (tj != tj) = false := by simp
          have t3 : (NX != NX) = false := by simp
          have t4 : ((j : Int) != (j : Int)) = false := by simp
          clear hrt hhf hfr hto haf hNX htj hb2t hbwt hz hjf hjc
          by_cases hnext : i + 1 < L
          · have hn1 : (i : Int) + 1 < (L : Int) := by omega
            have hn0 : (0 : Int) ≤ (i : Int) + 1 := by omega
            obtain ⟨z2, hz2⟩ : ∃ z, Z[i + 1]? = some z := ⟨_, List.getElem?_eq_getElem (by have := HL.out; omega)⟩
            obtain ⟨b5, o5, e5, hc5⟩ := hat (i + 1) z2 hz2
            cases e5
            have hgd : NX = z2 := by rw [HNX.out, List.getD_eq_getElem?_getD, hz2]; rfl
            have htn : ((i : Int) + 1).toNat = i + 1 := by omega
            rw [← hgd] at hc5
            clear hz2 HNX hgd
            clear hat hbt hgt
            go_wp2_with (first
              | (go_at_call 15; refine (HRT.out _ (Below.refl _ _)).mono ?_; rintro e w6 ⟨rfl, hb6⟩; refine Hid.out ?_))
            refine Nu.hid ?_
            have hs6 := hb6.size
            have HB6 := Nu.hid hb6
            have HH6 := Nu.hid (HHF.out w6 hb6)
            clear hb6
            go_wp2_with (go_at_call 14; refine HH6.out.mono ?_; rintro e w7 ⟨rfl, hb7⟩; refine Hid.out ?_)
            refine Nu.hid ?_
            have HB7 := Nu.hid (HB6.out.trans (hb7.mono HB6.out.size))
            have hs7 := hb7.size
            obtain ⟨u0, u1, -⟩ := pair_cells ((HB7.out.block w.heap.size hsgt).trans HGT.out)
            have hS : ∀ V, Below w7.heap.size w7 V → (V.cell? ⟨w.heap.size, 0, none⟩ = some (.int .i64 (m : Int)) ∧ V.cell? ⟨w.heap.size, 1, none⟩ = some (.slice ao es.length ca) ∧ Below w7.heap.size w7 V) := fun V hb =>
              ⟨(hb.cell (p := ⟨w.heap.size, 0, none⟩) (by show w.heap.size < _; omega)).trans u0, (hb.cell (p := ⟨w.heap.size, 1, none⟩) (by show w.heap.size < _; omega)).trans u1, hb⟩
            have c1 : ∀ V, Below w7.heap.size w7 V → Calls Try.prog 16 #[.pointer (some ⟨p, 0, none⟩), .int .i64 (j : Int)] V fun e V' => e = .returned (.int .i64 (v : Int)) ∧ Below V.heap.size V V' := fun V hb => HFR.out V (HB7.out.trans (hb.mono (by omega)))
            have c2 : ∀ V, Below w7.heap.size w7 V → Calls Try.prog 17 #[.pointer (some ⟨p, 0, none⟩), .int .i64 (j : Int)] V fun e V' => e = .returned (.int .i64 tj) ∧ Below V.heap.size V V' := fun V hb => HTO.out V (HB7.out.trans (hb.mono (by omega)))
            have c3 : ∀ V, Below w7.heap.size w7 V → Calls Try.prog 15 #[.agg #[.int .i64 (m : Int), .slice ao es.length ca], .int .i64 (j : Int)] V fun e V' => e = .returned (.int .i64 tj) ∧ Below V.heap.size V V' := fun V hb => HRT.out V (HB7.out.trans (hb.mono (by omega)))
            have c4 : ∀ V, Below w7.heap.size w7 V → Calls Try.prog 18 #[.pointer (some ⟨p, 0, none⟩), .int .i64 (j : Int)] V fun e V' => e = .returned (.int .i64 NX) ∧ Below V.heap.size V V' := fun V hb => HAF.out V (HB7.out.trans (hb.mono (by omega)))
            have C1 := Nu.hid c1
            have C2 := Nu.hid c2
            have C3 := Nu.hid c3
            have C4 := Nu.hid c4
            have HS := Nu.hid hS
            have hbd : Below w7.heap.size w7 w7.drew := (Below.refl _ _).drew
            clear hb7 hS c1 c2 c3 c4 HFR HTO HRT HAF HHF HH6
            go_wp2_with fail
            go_region_held3 (fun V => V.cell? ⟨w.heap.size, 0, none⟩ = some (.int .i64 (m : Int)) ∧ V.cell? ⟨w.heap.size, 1, none⟩ = some (.slice ao es.length ca) ∧ Below w7.heap.size w7 V)
              (exact HS.out _ (by first | assumption | exact hbd))
              ((first
                | (go_at_call 16; refine (C1.out _ (by first | assumption | exact hbd)).mono ?_; rintro r V1 ⟨rfl, hv1⟩; have hb1 : Below w7.heap.size w7 V1 := Below.trans (by first | assumption | exact hbd) (hv1.mono (Below.size (by first | assumption | exact hbd))); clear hv1)
                | (go_at_call 17; refine (C2.out _ (by first | assumption | exact hbd)).mono ?_; rintro r V2 ⟨rfl, hv2⟩; have hb2 : Below w7.heap.size w7 V2 := Below.trans (by first | assumption | exact hbd) (hv2.mono (Below.size (by first | assumption | exact hbd))); clear hv2)
                | (go_at_call 15; refine (C3.out _ (by first | assumption | exact hbd)).mono ?_; rintro r V3 ⟨rfl, hv3⟩; have hb3 : Below w7.heap.size w7 V3 := Below.trans (by first | assumption | exact hbd) (hv3.mono (Below.size (by first | assumption | exact hbd))); clear hv3)
                | (go_at_call 18; refine (C4.out _ (by first | assumption | exact hbd)).mono ?_; rintro r V4 ⟨rfl, hv4⟩; have hb4 : Below w7.heap.size w7 V4 := Below.trans (by first | assumption | exact hbd) (hv4.mono (Below.size (by first | assumption | exact hbd))); clear hv4)))
            all_goals
              go_wp2
              go_roundw
              case rel => exact ⟨i + 1, by omega, by go_num, HBT.out.trans ((HB7.out.trans (Below.mono (by assumption) (by omega))).mono hszt)⟩
              case measure => simp [intOf]; omega
          · have hn1 : ¬ ((i : Int) + 1 < (L : Int)) := by omega
            have hgd : NX = -1 := by rw [HNX.out, List.getD_eq_getElem?_getD, List.getElem?_eq_none (by have := HL.out; omega)]; rfl
            subst hgd
            clear HNX
            clear hat hbt hgt
            go_wp2_with (first
              | (go_at_call 15; refine (HRT.out _ (Below.refl _ _)).mono ?_; rintro e w6 ⟨rfl, hb6⟩; refine Hid.out ?_))
            refine Nu.hid ?_
            have hs6 := hb6.size
            have HB6 := Nu.hid hb6
            have HH6 := Nu.hid (HHF.out w6 hb6)
            clear hb6
            go_wp2_with (go_at_call 14; refine HH6.out.mono ?_; rintro e w7 ⟨rfl, hb7⟩; refine Hid.out ?_)
            refine Nu.hid ?_
            have HB7 := Nu.hid (HB6.out.trans (hb7.mono HB6.out.size))
            have hs7 := hb7.size
            obtain ⟨u0, u1, -⟩ := pair_cells ((HB7.out.block w.heap.size hsgt).trans HGT.out)
            have hS : ∀ V, Below w7.heap.size w7 V → (V.cell? ⟨w.heap.size, 0, none⟩ = some (.int .i64 (m : Int)) ∧ V.cell? ⟨w.heap.size, 1, none⟩ = some (.slice ao es.length ca) ∧ Below w7.heap.size w7 V) := fun V hb =>
              ⟨(hb.cell (p := ⟨w.heap.size, 0, none⟩) (by show w.heap.size < _; omega)).trans u0, (hb.cell (p := ⟨w.heap.size, 1, none⟩) (by show w.heap.size < _; omega)).trans u1, hb⟩
            have c1 : ∀ V, Below w7.heap.size w7 V → Calls Try.prog 16 #[.pointer (some ⟨p, 0, none⟩), .int .i64 (j : Int)] V fun e V' => e = .returned (.int .i64 (v : Int)) ∧ Below V.heap.size V V' := fun V hb => HFR.out V (HB7.out.trans (hb.mono (by omega)))
            have c2 : ∀ V, Below w7.heap.size w7 V → Calls Try.prog 17 #[.pointer (some ⟨p, 0, none⟩), .int .i64 (j : Int)] V fun e V' => e = .returned (.int .i64 tj) ∧ Below V.heap.size V V' := fun V hb => HTO.out V (HB7.out.trans (hb.mono (by omega)))
            have c3 : ∀ V, Below w7.heap.size w7 V → Calls Try.prog 15 #[.agg #[.int .i64 (m : Int), .slice ao es.length ca], .int .i64 (j : Int)] V fun e V' => e = .returned (.int .i64 tj) ∧ Below V.heap.size V V' := fun V hb => HRT.out V (HB7.out.trans (hb.mono (by omega)))
            have c4 : ∀ V, Below w7.heap.size w7 V → Calls Try.prog 18 #[.pointer (some ⟨p, 0, none⟩), .int .i64 (j : Int)] V fun e V' => e = .returned (.int .i64 (-1)) ∧ Below V.heap.size V V' := fun V hb => HAF.out V (HB7.out.trans (hb.mono (by omega)))
            have C1 := Nu.hid c1
            have C2 := Nu.hid c2
            have C3 := Nu.hid c3
            have C4 := Nu.hid c4
            have HS := Nu.hid hS
            have hbd : Below w7.heap.size w7 w7.drew := (Below.refl _ _).drew
            clear hb7 hS c1 c2 c3 c4 HFR HTO HRT HAF HHF HH6
            go_wp2_with fail
            go_region_held3 (fun V => V.cell? ⟨w.heap.size, 0, none⟩ = some (.int .i64 (m : Int)) ∧ V.cell? ⟨w.heap.size, 1, none⟩ = some (.slice ao es.length ca) ∧ Below w7.heap.size w7 V)
              (exact HS.out _ (by first | assumption | exact hbd))
              ((first
                | (go_at_call 16; refine (C1.out _ (by first | assumption | exact hbd)).mono ?_; rintro r V1 ⟨rfl, hv1⟩; have hb1 : Below w7.heap.size w7 V1 := Below.trans (by first | assumption | exact hbd) (hv1.mono (Below.size (by first | assumption | exact hbd))); clear hv1)
                | (go_at_call 17; refine (C2.out _ (by first | assumption | exact hbd)).mono ?_; rintro r V2 ⟨rfl, hv2⟩; have hb2 : Below w7.heap.size w7 V2 := Below.trans (by first | assumption | exact hbd) (hv2.mono (Below.size (by first | assumption | exact hbd))); clear hv2)
                | (go_at_call 15; refine (C3.out _ (by first | assumption | exact hbd)).mono ?_; rintro r V3 ⟨rfl, hv3⟩; have hb3 : Below w7.heap.size w7 V3 := Below.trans (by first | assumption | exact hbd) (hv3.mono (Below.size (by first | assumption | exact hbd))); clear hv3)
                | (go_at_call 18; refine (C4.out _ (by first | assumption | exact hbd)).mono ?_; rintro r V4 ⟨rfl, hv4⟩; have hb4 : Below w7.heap.size w7 V4 := Below.trans (by first | assumption | exact hbd) (hv4.mono (Below.size (by first | assumption | exact hbd))); clear hv4)))
            all_goals
              go_wp2
              go_roundw
              case rel => exact ⟨i + 1, by omega, by go_num, HBT.out.trans ((HB7.out.trans (Below.mono (by assumption) (by omega))).mono hszt)⟩
              case measure => simp [intOf]; omega
        · have hd : ¬ ((i : Int) < (L : Int)) := by omega
          have HBE := Nu.hid (HB45.out.trans (hbt.mono HB45.out.size))
          clear hbt hgt
          go_wp2
          go_roundw
          case rel => exact ⟨v + 1, by omega, by go_num, HBE.out⟩
          case measure => simp [intOf]; omega
    · have hd : ¬ ((v : Int) < (m : Int)) := by omega
      have hbw : Below w.heap.size w wr := HB2.out.trans (hb2r.mono HB2.out.size)
      have hbe := beyond_any p m es ao ca an cn ln (zs.take ln) wr (HADJ2.out.later hb2r) HVAL.out (HQ.out.hat.later hbw) HZL.out (HIN.out.later hbw)
      have HBE := Nu.hid hbe
      have HBW := Nu.hid hbw
      clear hbr hb2r hgr hbe hbw
      go_wp2_with (go_at_call 19; refine HBE.out.mono ?_; rintro e w9 ⟨rfl, hb9⟩)
      go_ret
      exact ⟨rfl, HBW.out.trans (hb9.mono HBW.out.size)⟩

set_option maxRecDepth 100000 in
/-- What the walk gives, for every argument and every world. -/
theorem contract (H : Type) (enc : TypeId × Value → H) (W : World) (base : Nat) (args : Array Value) (ds gs : List (DataW H)) (before : List MemPlace)
    (hval : ∀ (j : Nat) t v, Try.f3.params[j]? = some t → args[j]? = some v → Value.okWide Try.prog W .any base t v)
    (hW : DataW.Whole enc Try.prog Try.f3.params.toList Rows.csrAnswersSpec.vars false W args.toList ds gs before)
    (hsz : (DataW.weightsEach Try.prog (Try.f3.params.toList ++ (OpenSpec.ofChange Rows.csrAnswersSpec).bare.plain.varTypes Try.prog) (ds ++ gs)).all (· ≤ reachBytes) = true)
    :
    Calls Try.prog 3 args W fun e W' => ∃ v, e = .returned v ∧ Rows.csrAnswersSpec.post enc Try.prog Try.f3 false true false false W args v W' := by
  have hW' := hW
  obtain ⟨p, q, hA0, hV, rfl, hfz, hnd⟩ := hW
  have hA : DataW.TrodAll enc Try.prog W 0 (fun _ => true) true Try.f3.params.toList args.toList ds p := hA0
  rw [Try.params3] at hA hval hsz
  obtain ⟨v0, vs0, d0, ds0, p0, q0, hargs, rfl, rfl, h0, r0⟩ := trodAll_cons hA
  obtain ⟨v1, vs1, d1, ds1, p1, q1, rfl, rfl, rfl, h1, r1⟩ := trodAll_cons r0
  obtain ⟨rfl, rfl, rfl⟩ := trodAll_nil r1
  obtain rfl : args = #[v0, v1] := by cases args; simp_all
  obtain ⟨rfl, rfl⟩ := trodVars_none hV
  have k0 := h0
  have lt0 : ∀ x ∈ p0, x.block < W.heap.size := by obtain ⟨m, hm⟩ := k0; exact DataW.trod_lt m _ _ _ hm
  obtain ⟨n0, a0, cap0, q0, rfl, x0, w0, u0⟩ := graph_of_trod (j := 0) (hval 0 24 v0 rfl rfl) h0 hsz rfl rfl
  obtain ⟨a1, len1, cap1, rfl⟩ := okWide_slice Try.underlying25 (hval 1 25 v1 rfl rfl)
  have k1 := h1
  have lt1 : ∀ x ∈ p1, x.block < W.heap.size := by obtain ⟨m, hm⟩ := k1; exact DataW.trod_lt m _ _ _ hm
  obtain ⟨z1, w1⟩ := IsRow.of_trod (j := 1) Try.underlying25 Try.underlying3 cellsInt bytesInt h1 hsz rfl rfl
  clear hA0
  refine (walk n0 a0 cap0 q0 a1 len1 cap1 z1 W x0 w0 u0 w1).mono fun e W' ⟨he, bel⟩ => ?_
  subst he
  exact ⟨_, rfl, _, _, _, [], _, [], hW', trodAll_mk1 (shut_bool Try.underlying4 _), (trodAll_cons_mk (Below.trod laidOut (by kernel_rfl) (of_decide_eq_true (by kernel_rfl)) k0 bel lt0) (trodAll_cons_mk (Below.trod laidOut (by kernel_rfl) (of_decide_eq_true (by kernel_rfl)) k1 bel lt1) trodAll_mk0)), rfl, bel.frame _, fun h => by cases h⟩

theorem laid_met (os : Os) : laidMet Try.prog Rows.csrAnswersRow.laid ((settled os).forCall (fun _ _ => 0) ⟨#[], #[.agg #[.int .i64 0, .slice none 0 0], .slice none 0 0], []⟩).memory :=
  laidMet_of_run' 100 (by kernel_rfl) (by kernel_rfl)
theorem reads (os : Os) {H : Type} (enc : TypeId × Value → H) : ∃ places, DataW.whole enc Try.prog ((settled os).forCall (fun _ _ => 0) ⟨#[], #[.agg #[.int .i64 0, .slice none 0 0], .slice none 0 0], []⟩).memory Try.f3.params.toList Rows.csrAnswersSpec.vars false (#[.agg #[.int .i64 0, .slice none 0 0], .slice none 0 0] : Array Value).toList 8 = some ([.agg [.lit (.int .i64 0), .nil], .nil], [], places) :=
  ⟨[], by kernel_rfl⟩

set_option maxRecDepth 100000 in
theorem lifted (os : Os) (started : os.Started) (H : Type) (enc : TypeId × Value → H) (F : Stop.Interp) :
    ReturnsInHanded {} Try.checked os 3 .any ((OpenSpec.ofChange Rows.csrAnswersSpec).preRow enc Try.prog Try.f3 Rows.csrAnswersRow.domain false Rows.csrAnswersRow.laid) (((OpenSpec.ofChange Rows.csrAnswersSpec).at F).post enc Try.prog Try.f3 false true false false) := by
  obtain ⟨places, hx⟩ := reads os enc
  refine returnsInHanded_of_row (C := Try.checked) (s := (OpenSpec.ofChange Rows.csrAnswersSpec)) own started (by kernel_rfl) Try.func3
    (witness_row_at (enc := enc) (C := Try.checked) false (settled os) #[.agg #[.int .i64 0, .slice none 0 0], .slice none 0 0] rfl (by kernel_rfl) (by kernel_rfl) (by kernel_rfl)
      (OpenSpec.preRow_of_cond 8 hx (by kernel_rfl) (fun k hk => by cases hk) (by kernel_rfl) (laid_met os))) ?_
  intro W base args ds gs before hval hW _ _ hsz _ _ _
  exact contract H enc W base args ds gs before hval hW hsz 

theorem said : Rows.CsrAnswersSaid :=
  OpenClaim.holds_of_cond 3 Try.f3 rfl rfl rfl rfl rfl rfl rfl ⟨rfl, rfl, rfl, rfl, rfl⟩ rfl rfl rfl rfl rfl (by kernel_rfl) Try.func3 (by kernel_rfl)
    (of_decide_eq_true (by kernel_rfl)) (by unfold Func.isWrapper; first | (rw [if_pos (by decide +kernel)]; kernel_rfl) | (rw [if_neg (by decide +kernel)]; exact ⟨rfl, rfl⟩))
    (fun os started H enc _ F => by rw [OpenClaim.pre_eq_preRow]; exact lifted os started H enc F)

end lawAnswers

theorem csrAnswers_holds : Rows.CsrAnswersSaid := lawAnswers.said

#print axioms csrAnswers_holds
end Go.Proofs.Ytlnkcebfnamdcaa
