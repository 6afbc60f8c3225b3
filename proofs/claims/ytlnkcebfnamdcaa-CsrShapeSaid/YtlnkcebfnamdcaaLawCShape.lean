/-
  Proved: for every graph the law CsrShape answers true, and the graph reads afterwards as before. No condition.
-/
import Derived.Test.YtlnkcebfnamdcaaCsAwake
import Derived.Test.YtlnkcebfnamdcaaCsRV
import Derived.Test.YtlnkcebfnamdcaaSiGin
import Derived.Deep.RegionHeld3
import Derived.Deep.CutBlock
import Derived.Deep.QuietTactic
import Derived.BigQuiet
import Derived.Deep.CutRange
namespace Go.Proofs.Ytlnkcebfnamdcaa
open Go.ChangeShapes Go.WideShapes Go.ChangeAt Go.RowKit
namespace lawShape

/-- The half-edges of the vertices below v have been seen, and those of v that come ahead of the i-th. -/
def Seen (es : List (Int × Int)) (v i : Nat) (S : List Int) : Prop :=
  S.length = 2 * es.length ∧ ∀ k, k < 2 * es.length → S[k]? = some (if Cs.fr es k < v ∨ (Cs.fr es k = v ∧ (Cs.out es v k).length < i) then 1 else 0)

theorem Seen.start (es : List (Int × Int)) : Seen es 0 0 (List.replicate (2 * es.length) 0) := by
  refine ⟨by simp, fun k hk => ?_⟩
  rw [List.getElem?_replicate, if_pos hk, if_neg (by omega)]

theorem Seen.enter {es : List (Int × Int)} {v : Nat} {S : List Int} (h : Seen es v 0 S) : Seen es v 0 S := h

theorem Seen.step {es : List (Int × Int)} {v i j : Nat} {S : List Int} (h : Seen es v i S) (hj : j < 2 * es.length) (hv : Cs.fr es j = v) (hi : (Cs.out es v j).length = i) : S[j]? = some 0 ∧ Seen es v (i + 1) (S.set j 1) := by
  have h0 := h.2 j hj
  rw [if_neg (by omega)] at h0
  refine ⟨h0, by simp [h.1], fun k hk => ?_⟩
  rw [List.getElem?_set]
  by_cases e : j = k
  · subst e
    rw [if_pos rfl, if_pos (by rw [h.1]; exact hj), if_pos (by omega)]
  · rw [if_neg e, h.2 k hk]
    have hne : Cs.fr es k = v → (Cs.out es v k).length ≠ i := fun hk1 hk2 => by
      rcases Nat.lt_or_ge j k with hl | hl
      · have := Cs.out_lt (es := es) (v := v) hl hv
        omega
      · have := Cs.out_lt (es := es) (v := v) (i := k) (k := j) (by omega) hk1
        omega
    congr 1
    by_cases hc : Cs.fr es k < v ∨ (Cs.fr es k = v ∧ (Cs.out es v k).length < i)
    · rw [if_pos hc, if_pos (by omega)]
    · rw [if_neg hc, if_neg (by omega)]

theorem Seen.next {es : List (Int × Int)} {v : Nat} {S : List Int} (h : Seen es v (Cs.out es v (2 * es.length)).length S) : Seen es (v + 1) 0 S := by
  refine ⟨h.1, fun k hk => ?_⟩
  rw [h.2 k hk]
  congr 1
  have hlt : Cs.fr es k = v → (Cs.out es v k).length < (Cs.out es v (2 * es.length)).length := fun hv => Cs.out_lt hk hv
  by_cases hc : Cs.fr es k < v + 1
  · rw [if_pos (by omega), if_pos (by omega)]
  · rw [if_neg (by omega), if_neg (by omega)]

theorem Seen.bit {es : List (Int × Int)} {v i : Nat} {S : List Int} (h : Seen es v i S) {k : Nat} {x : Int} (hk : S[k]? = some x) : 0 ≤ x ∧ x ≤ 1 := by
  have hl := (List.getElem?_eq_some_iff.1 hk).1
  rw [h.1] at hl
  rw [h.2 k hl] at hk
  have := Option.some.inj hk
  split at this <;> omega

theorem outz_at {m : Nat} {es : List (Int × Int)} {v i : Nat} (hv : v < m) {z : Int} (h : (Cs.outZ m es v)[i]? = some z) : ∃ j : Nat, z = (j : Int) ∧ (Cs.out es v (2 * es.length))[i]? = some j ∧ j < 2 * es.length ∧ Cs.fr es j = v ∧ (Cs.out es v j).length = i := by
  unfold Cs.outZ at h
  rw [List.getElem?_map, Cs.outI_in hv] at h
  obtain ⟨j, hj, rfl⟩ := Option.map_eq_some_iff.1 h
  obtain ⟨h1, h2, h3⟩ := Cs.out_of hj
  exact ⟨j, rfl, hj, h1, h2, h3⟩

theorem ownz_at {w : World} {B : Nat} {v : Value} {l : List Int} (h : OwnZ w B v l) : ∃ ao cap, v = .slice ao l.length cap ∧ IntsAt w ao l ∧ (∀ x, ao = some x → B ≤ x.block) := by
  have h' := h
  rcases h.2 with ⟨rfl, h0⟩ | ⟨g, cap, cur, rfl, hg, hh, _⟩
  · refine ⟨none, 0, by rw [h0], fun j x hj => ?_, fun x hx => by cases hx⟩
    rw [List.length_eq_zero_iff.1 h0] at hj
    simp at hj
  · refine ⟨_, cap, rfl, fun j x hj => ⟨g, 0, rfl, ?_⟩, fun x hx => by cases hx; exact hg⟩
    rw [Nat.zero_add]
    exact (ints_in_row h').cell hj

/-- Ints that lie elsewhere stay. -/
theorem ints_wrote {w w' : World} {S : Nat → Prop} {ao : Option Addr} {l : List Int} (h : IntsAt w ao l) (hw : Wrote S w w') (hn : ∀ x, ao = some x → ¬ S x.block) : IntsAt w' ao l := fun j x hj => by
  obtain ⟨b, o, e, hc⟩ := h j x hj
  exact ⟨b, o, e, (World.cell?_of_block (w := w) (a := ⟨b, o + j, none⟩) (hw.block b (block_lt_of_cell hc) (hn _ e))).trans hc⟩

set_option maxRecDepth 100000 in
set_option maxHeartbeats 16000000 in
theorem walk (n : Int) (ao : Option Addr) (ca : Nat) (es : List (Int × Int)) (w : World) (_ : -9223372036854775808 ≤ n ∧ n ≤ 9223372036854775807) (hq : PairsIn w ao es.length ca es) (hle : es.length * 16 ≤ 140737488351232) :
    Calls Try.prog 4 #[.agg #[.int .i64 n, .slice ao es.length ca]] w fun e w' => e = .returned (.bool true) ∧ Below w.heap.size w w' := by
  obtain ⟨i0, hi, hz0, hz1, hz2⟩ := info_parts Try.infoNum
  have HQ := Nu.hid hq
  have hadjc := fun W (hb : Below w.heap.size w W) => adj_any n ao ca es W (hq.hat.later hb) (fun h => (hq.hnil h).2) (by omega)
  have hvalid := fun W (hb : Below w.heap.size w W) => r4valid_any n ao ca es W (hq.hat.later hb) (by omega)
  unfold graphVal at hadjc hvalid
  have HADJC := Nu.hid hadjc
  have HVALID := Nu.hid hvalid
  clear hq hadjc hvalid
  have hb0 : Below w.heap.size w (w.alloc (.cells #[.int .i64 n, .slice ao es.length ca] 24)) := (Below.refl _ _).alloc (Nat.le_refl _) _
  have HB0 := Nu.hid hb0
  clear hb0
  go_enter Try.func4, Try.ntmps4
  -- the fixed fact
  go_wp2_with (go_at_call 7; refine (awake_any _).mono ?_; rintro e w1 ⟨rfl, hb⟩; refine Hid.out ?_)
  refine Nu.hid ?_
  have hG : w1.heap[w.heap.size]? = some (.cells #[.int .i64 n, .slice ao es.length ca] 24 (0, 0)) := (hb.block _ (by simp)).trans (heap_alloc_new w _)
  have HB1 := Nu.hid (HB0.out.trans (hb.mono HB0.out.size))
  have HG1 := Nu.hid hG
  obtain ⟨x0, x1, -⟩ := pair_cells hG
  have hs1 := lt_of_block hG
  clear hb hG
  -- the Adj
  go_wp2_with (go_at_call 8; refine (HADJC.out _ HB1.out).mono ?_; rintro e w2 ⟨q, z, rfl, hq, hb⟩; refine Hid.out ?_)
  refine Nu.hid ?_
  have HB2 := Nu.hid (HB1.out.trans (hb.mono HB1.out.size))
  have HG2 := Nu.hid ((hb.block _ hs1).trans HG1.out)
  have hs2 := hb.size
  have HNQ := Nu.hid hq.1
  clear x0 x1 hb hq HG1 HADJC
  obtain ⟨x0, x1, -⟩ := pair_cells HG2.out
  rcases HNQ.out with ⟨m, p, hnm, hval, rfl, hadj⟩ | ⟨hv, rfl⟩
  rotate_left
  · have hva := HVALID.out w2 HB2.out
    rw [hv] at hva
    have HVA := Nu.hid hva
    clear hv hva HVALID
    go_wp2_with (go_at_call 9; refine HVA.out.mono ?_; rintro e w12 ⟨rfl, hb12⟩)
    go_ret
    exact ⟨rfl, HB2.out.trans (hb12.mono HB2.out.size)⟩
  subst hnm
  have hfew := hval.few
  have hhi := hval.hi
  have HVAL := Nu.hid hval
  have hadjl : ∀ V, Below w2.heap.size w2 V → IsAdj V (.pointer (some ⟨p, 0, none⟩)) m es := fun V hb => .inr ⟨_, p, rfl, HVAL.out, hadj.later hb⟩
  have HADJ := Nu.hid hadjl
  have hfrl : ∀ k, k < 2 * es.length → Cs.fr es k < m := fun k hk => (Cs.half_lt hval hk).1
  have HFRL := Nu.hid hfrl
  clear hval hadj hadjl hfrl HNQ HVALID
  -- what has been seen
  obtain ⟨M, hM⟩ : ∃ M, M = 2 * es.length := ⟨_, rfl⟩
  have hmi : (M : Int) = 2 * (es.length : Int) := by omega
  have hmk : ∀ W, (Instr.makeSlice 25 (.int .i64 (2 * (es.length : Int))) (.int .i64 (2 * (es.length : Int)))).run Try.prog W = .ok (.slice (some ⟨W.heap.size, 0, none⟩) M M) (W.alloc (.cells (madeCells #[.int .i64 0] M) 3)) := fun W => by
    have := run_make (P := Try.prog) W 25 3 i0 (.int .i64 0) Try.underlying25 hi hz0 .i64 .i64 (2 * (es.length : Int)) (2 * (es.length : Int)) (by omega) (Int.le_refl _) (by rw [hz2]; omega) (by omega)
    rw [this, hz1, ← hmi]
    simp [Value.cells]
  have hM2 : M ≤ 8388608 := by omega
  have HM := Nu.hid hM
  have HMI := Nu.hid hmi
  clear hM hmi
  go_wp2
  clear hmk x0 x1
  go_loopw [6, 7] (fun sv cv wr => ∃ (v : Nat) (S : List Int), v ≤ m ∧ cv = .int .i64 v ∧ sv = .int .i64 (Cs.st es M v) ∧ Seen es v 0 S ∧ IntsIn wr w2.heap.size S ∧ Below w2.heap.size w2 wr) (fun _ cv _ => m - (intOf cv).toNat)
  case atStart =>
    refine ⟨0, List.replicate M 0, Nat.zero_le _, rfl, rfl, ?_, made_in rfl, (Below.refl _ _).alloc (Nat.le_refl _) _⟩
    rw [HM.out]
    exact Seen.start es
  case round =>
    obtain ⟨v, S, hvm, rfl, rfl, hseen, hS, hbr⟩ := hrel
    have HSEEN := Nu.hid hseen
    have HS := Nu.hid hS
    have HBR := Nu.hid hbr
    have hsl := hS.lt
    have hgr := (hbr.block w.heap.size (by omega)).trans HG2.out
    obtain ⟨x0, x1, -⟩ := pair_cells hgr
    have hszr := hbr.size
    by_cases hlt : v < m
    · have hlti : (v : Int) < (m : Int) := by omega
      have hv0 : (0 : Int) ≤ (v : Int) := by omega
      obtain ⟨Z, hZ⟩ : ∃ Z, Z = Cs.outZ m es v := ⟨_, rfl⟩
      obtain ⟨L, hL⟩ : ∃ L, L = Z.length := ⟨_, rfl⟩
      have hLo : L = (Cs.out es v (2 * es.length)).length := by rw [hL, hZ, Cs.outZ_len, Cs.outI_in hlt]
      have hLM : L ≤ M := by rw [hLo, HM.out]; exact Cs.out_len_le _
      have hout := out_any _ m es v (2 * (es.length : Int)) wr (HADJ.out wr hbr)
      unfold OutPost at hout
      rw [← hZ, List.take_of_length_le (by have := HM.out; omega)] at hout
      have HOUT : Hid (Calls Try.prog 20 #[.pointer (some ⟨p, 0, none⟩), .int .i64 v, .int .i64 (2 * (es.length : Int))] wr fun e w' => ∃ a4 c4, e = .returned (.tuple #[.slice a4 L c4, .bool true]) ∧ (IntsAt w' a4 Z ∧ ∀ x, a4 = some x → wr.heap.size ≤ x.block) ∧ Below wr.heap.size wr w') := hout.mono (by
        rintro e w' ⟨v4, he, hz4, hb4⟩
        obtain ⟨a4, c4, rfl, hat4, hlow4⟩ := ownz_at hz4
        rw [← hL] at he
        exact ⟨a4, c4, he, ⟨hat4, hlow4⟩, hb4⟩)
      have HZ := Nu.hid hZ
      have HL := Nu.hid hL
      have HLO := Nu.hid hLo
      clear hout hseen hS hZ hL hLo
      go_wp2_with (go_at_call 20; refine HOUT.out.mono ?_; rintro e w4 ⟨a4, c4, rfl, hz4, hb4⟩; refine Hid.out ?_)
      refine Nu.hid ?_
      have hbr4 : Below w2.heap.size w2 w4 := hbr.trans (hb4.mono hszr)
      have HB4 := Nu.hid hbr4
      have HS4 := Nu.hid (HS.out.later hb4)
      have HAT := Nu.hid hz4.1
      have HLOW := Nu.hid hz4.2
      have hs4 := hb4.size
      have hdeg := degree_any _ m es v w4 (HADJ.out w4 hbr4)
      rw [Cs.outI_in hlt, ← HLO.out] at hdeg
      have HDEG := Nu.hid hdeg
      have hfst := first_any _ m es v w4 (HADJ.out w4 hbr4)
      unfold Cs.firstI at hfst
      rw [← HZ.out] at hfst
      have HFST := Nu.hid hfst
      have t1 : ((L : Int) != (L : Int)) = false := by simp
      have hstl : Cs.st es M (v + 1) = Cs.st es M v + L := by rw [HLO.out, ← HM.out]; rfl
      have hstM : Cs.st es M v + L ≤ M := by
        have := Cs.st_le (es := es) (n := m) (M := 2 * es.length) HFRL.out hlt
        rw [HM.out, HLO.out]
        exact this
      have HSTL := Nu.hid hstl
      clear hz4 hb4 hbr4 hdeg hfst hstl HOUT x0 x1 hgr hbr
      obtain ⟨s, hs⟩ : ∃ s, s = Cs.st es M v := ⟨_, rfl⟩
      rw [← hs] at hstM HSTL ⊢
      have HSV := Nu.hid hs
      clear hs
      go_wp2_with (first
        | (go_at_call 21; refine HDEG.out.mono ?_; rintro e wn ⟨rfl, rfl⟩)
        | (go_at_call 22; refine HFST.out.mono ?_; rintro e w5x ⟨rfl, k5, hw5x⟩; refine Hid.out ?_))
      refine Nu.hid ?_
      obtain ⟨w5, hw5⟩ : ∃ w5, w5 = wn.drewN k5 := ⟨_, rfl⟩
      rw [← hw5]
      clear hw5x
      have HB5 : Hid (Below w2.heap.size w2 w5) := by rw [hw5]; exact below_drewN HB4.out _
      have HS5 : Hid (IntsIn w5 w2.heap.size S) := by rw [hw5]; exact HS4.out
      have HAT5 : Hid (IntsAt w5 a4 Z) := by rw [hw5]; exact HAT.out
      have hs5 : wn.heap.size = w5.heap.size := by rw [hw5]; rfl
      have hlow5 : ∀ x, a4 = some x → w2.heap.size < x.block := fun x hx => by have := HLOW.out x hx; omega
      have HLOW5 := Nu.hid hlow5
      clear hw5 HDEG HFST HB4 HS4 HAT HLOW t1 hlow5
      go_wp2
      go_loopw [10, 11] (fun hv cv wt => ∃ (i : Nat) (T : List Int), i ≤ L ∧ cv = .int .i64 i ∧ hv = .int .i64 (Z.getD i (-1)) ∧ Seen es v i T ∧ IntsIn wt w2.heap.size T ∧ Wrote (fun b => b = w2.heap.size) w5 wt) (fun _ cv _ => L - (intOf cv).toNat)
      case atStart => exact ⟨0, S, Nat.zero_le _, rfl, rfl, HSEEN.out, HS5.out, Wrote.refl _ _⟩
      case round =>
        obtain ⟨i, T, hiL, rfl, rfl, hsn, hT, hwt⟩ := hrel
        have HSN := Nu.hid hsn
        have HT := Nu.hid hT
        have HWT := Nu.hid hwt
        have hszt := hwt.size
        have hbt : Below w2.heap.size w2 wr := HB5.out.trans (hwt.below HB5.out.size (fun b hb => by omega))
        have HBT := Nu.hid hbt
        have hgt := (hbt.block w.heap.size (by omega)).trans HG2.out
        obtain ⟨x0, x1, -⟩ := pair_cells hgt
        have hsgt := lt_of_block hgt
        by_cases hil : i < L
        · have hilt : (i : Int) < (L : Int) := by omega
          have hi0 : (0 : Int) ≤ (i : Int) := by omega
          obtain ⟨z, hz⟩ : ∃ z, Z[i]? = some z := ⟨_, List.getElem?_eq_getElem (by have := HL.out; omega)⟩
          have hat := ints_wrote HAT5.out hwt (fun x hx e => by have := HLOW5.out x hx; omega)
          obtain ⟨b4, o4, rfl, hc4⟩ := hat i z hz
          have hz' : (Cs.outZ m es v)[i]? = some z := by rw [← HZ.out]; exact hz
          obtain ⟨j, rfl, hjo, hjM, hjf, hjc⟩ := outz_at hlt hz'
          have hgd : Z.getD i (-1) = (j : Int) := by rw [List.getD_eq_getElem?_getD, hz]; rfl
          rw [hgd]
          obtain ⟨hS0, hsn2⟩ := hsn.step hjM hjf hjc
          -- what the calls answer
          have hadjw := HADJ.out wr hbt
          have HFR := Nu.hid fun x => from_any _ m es x wr hadjw
          have HTO := Nu.hid fun x => to_any _ m es x wr hadjw
          have htw := Cs.twin_lt hjM
          have f1 : Cs.frI es (j : Int) = (v : Int) := by rw [Cs.frI_in hjM, hjf]
          have f2 : Cs.frI es (Cs.twin j : Int) = (Cs.to es j : Int) := by rw [Cs.frI_in htw, Cs.fr_twin]
          have f3 : Cs.toI es (j : Int) = (Cs.to es j : Int) := Cs.toI_in hjM
          have hxt := Cs.xor_twin j (by omega)
          have hj0 : (0 : Int) ≤ (j : Int) := by omega
          have hjn : ¬ ((j : Int) < 0) := by omega
          have hjM2 : ¬ ((M : Int) ≤ (j : Int)) := by have := HM.out; omega
          have hjM3 : (j : Int) < (M : Int) := by omega
          have t1 : ((j : Int) != (j : Int)) = false := by simp
          have t2 : ((v : Int) != (v : Int)) = false := by simp
          have t3 : ((Cs.to es j : Int) != (Cs.to es j : Int)) = false := by simp
          obtain ⟨jh, hjh⟩ : ∃ jh, jh = j / 2 := ⟨_, rfl⟩
          have htd : (j : Int).tdiv 2 = (jh : Int) := by rw [Int.tdiv_eq_ediv_of_nonneg hj0]; omega
          have htd2 : (j : Int) / 2 = (jh : Int) := by omega
          have hjl : jh < es.length := by omega
          have hj2 : (0 : Int) ≤ (jh : Int) := by omega
          have hj3 : (jh : Int) < (es.length : Int) := by omega
          obtain ⟨e, he⟩ : ∃ e, es[jh]? = some e := ⟨_, List.getElem?_eq_getElem hjl⟩
          have hok := HVAL.out.each jh e he
          unfold Si.ok at hok
          obtain ⟨bE, oE, rfl, k0, k1⟩ := (HQ.out.hat.later (HB2.out.trans (hbt.mono HB2.out.size))) jh e he
          have hbE := block_lt_of_cell k0
          have HS0 := Nu.hid hS0
          have HSN2 := Nu.hid hsn2
          have HJC := Nu.hid hjc
          have HJF := Nu.hid hjf
          have HJM := Nu.hid hjM
          have hjd : j / 2 = jh := hjh.symm
          -- the half-edge is even or odd
          have hpar : (j = 2 * jh ∧ (v : Int) = e.1 ∧ (Cs.to es j : Int) = e.2) ∨ (j = 2 * jh + 1 ∧ (v : Int) = e.2 ∧ (Cs.to es j : Int) = e.1) := by
            rcases Nat.mod_two_eq_zero_or_one j with h | h
            · left
              have e1 : j = 2 * jh := by omega
              obtain ⟨g1, g2⟩ := Cs.fr_even he
              rw [← e1] at g1 g2
              exact ⟨e1, by omega, by omega⟩
            · right
              have e1 : j = 2 * jh + 1 := by omega
              obtain ⟨g1, g2⟩ := Cs.fr_odd he
              rw [← e1] at g1 g2
              exact ⟨e1, by omega, by omega⟩
          have HPAR := Nu.hid hpar
          have HOK := Nu.hid hok
          have hprev : i = 0 ∨ ∃ i' jp : Nat, i = i' + 1 ∧ Z[i']? = some (jp : Int) ∧ jp < 2 * es.length ∧ Cs.to es jp < Cs.to es j := by
            by_cases h0 : i = 0
            · exact .inl h0
            · right
              obtain ⟨i', rfl⟩ : ∃ i', i = i' + 1 := ⟨i - 1, by omega⟩
              obtain ⟨zp, hzp⟩ : ∃ z, Z[i']? = some z := ⟨_, List.getElem?_eq_getElem (by have := HL.out; omega)⟩
              have hzp' : (Cs.outZ m es v)[i']? = some zp := by rw [← HZ.out]; exact hzp
              obtain ⟨jp, rfl, hpo, hpM, hpf, hpc⟩ := outz_at hlt hzp'
              exact ⟨i', jp, rfl, hzp, hpM, Cs.to_rises HVAL.out (Cs.out_rises (Nat.lt_succ_self _) hpo hjo) hjM (hpf.trans hjf.symm)⟩
          have hprevc : ∀ i' jp : Nat, Z[i']? = some (jp : Int) → wr.cell? ⟨b4, o4 + i', none⟩ = some (.int .i64 (jp : Int)) := fun i' jp h => by
            obtain ⟨b, o, e', hc⟩ := hat i' _ h
            cases e'
            exact hc
          have HPREVC := Nu.hid hprevc
          have HPREV := Nu.hid hprev
          clear hadjw hsn hT hwt hbt hgt hz hz' hgd hS0 hsn2 hok he hpar hjo hjf hjc hjM htw hprevc hprev hat hjh
          go_upto_region 19 with fail
          go_cut [119] from 70 to 120 (fun sv wt => sv = .bool false ∧ wt = wr)
          case first =>
            rcases HPREV.out with h0 | ⟨i', jp, hi', hzp, hpM, hrise⟩
            · have hn0 : ¬ ((0 : Int) < (i : Int)) := by omega
              clear h0
              go_wp2_with (first
                | (go_at_call 16; refine (HFR.out _).mono ?_; rintro e2 wn ⟨rfl, rfl⟩)
                | (go_at_call 17; refine (HTO.out _).mono ?_; rintro e2 wn ⟨rfl, rfl⟩))
              go_meet
              exact ⟨rfl, rfl⟩
            · have hn0 : (0 : Int) < (i : Int) := by omega
              have hk1 : (i : Int) - 1 = (i' : Int) := by omega
              have hi'0 : (0 : Int) ≤ (i' : Int) := by omega
              have hi'l : (i' : Int) < (L : Int) := by omega
              have hcp := HPREVC.out i' jp hzp
              have f4 : Cs.toI es (jp : Int) = (Cs.to es jp : Int) := Cs.toI_in hpM
              have hns : ¬ (Cs.to es j ≤ Cs.to es jp) := by omega
              clear hi' hzp hrise
              go_wp2_with (first
                | (go_at_call 16; refine (HFR.out _).mono ?_; rintro e2 wn ⟨rfl, rfl⟩)
                | (go_at_call 17; refine (HTO.out _).mono ?_; rintro e2 wn ⟨rfl, rfl⟩))
              go_meet
              exact ⟨rfl, rfl⟩
          case rest =>
            obtain ⟨rfl, hwc⟩ := hcut
            rw [hwc]
            clear hwc
            obtain ⟨X, hX⟩ : ∃ X, X = wr.alloc (.cells #[.int .i64 e.1, .int .i64 e.2] 44) := ⟨_, rfl⟩
            have hbX : Below wr.heap.size wr X := by rw [hX]; exact (Below.refl _ _).alloc (Nat.le_refl _) _
            obtain ⟨p0, p1, -⟩ := pair_cells (heap_alloc_new wr (.cells #[.int .i64 e.1, .int .i64 e.2] 44))
            rw [← hX] at p0 p1
            have hszX : X.heap.size = wr.heap.size + 1 := by rw [hX]; simp
            have hbX2 : Below w2.heap.size w2 X := HBT.out.trans (hbX.mono HBT.out.size)
            have htx : ∀ k, Calls Try.prog 17 #[.pointer (some ⟨p, 0, none⟩), .int .i64 (j : Int)] (X.drewN k) fun r W' => r = .returned (.int .i64 (Cs.to es j : Int)) ∧ W' = X.drewN k := fun k => by
              have := to_any _ m es j (X.drewN k) (HADJ.out _ (below_drewN hbX2 k))
              rw [Cs.toI_in HJM.out] at this
              exact this
            have HTX := Nu.hid htx
            have HBX := Nu.hid hbX
            have HBX2 := Nu.hid hbX2
            have HX := Nu.hid hX
            clear htx hX hbX hbX2 f1 f2 f3 HFR HTO
            go_upto_region 22 with fail
            rw [← HX.out]
            clear k0 k1 x0 x1 hc4
            go_cut [161] from 126 to 162 (fun sv wt => sv = .bool false ∧ ∃ k, wt = X.drewN k)
            case first =>
              rcases HPAR.out with ⟨hj1, hv1, hv2⟩ | ⟨hj1, hv1, hv2⟩
              · have g1 : ((v : Int) != e.1) = false := by rw [hv1]; simp
                have g2 : ((Cs.to es j : Int) != e.2) = false := by rw [hv2]; simp
                have hm1 : (j : Int).tmod 2 = 0 := by rw [Int.tmod_eq_emod_of_nonneg hj0]; omega
                have hm2 : (j : Int) % 2 = 0 := by omega
                clear hj1 hv1 hv2
                go_wp2_with fail
                go_quiet ((go_at_call 17; exact Calls.quiet_of_same (HTX.out _)))
                go_wp2
                go_meet
                exact ⟨rfl, _, rfl⟩
              · have g0 : ((v : Int) != e.1) = true := by have := HOK.out; simp; omega
                have g1 : ((v : Int) != e.2) = false := by rw [hv1]; simp
                have g2 : ((Cs.to es j : Int) != e.1) = false := by rw [hv2]; simp
                have hm1 : (j : Int).tmod 2 = 1 := by rw [Int.tmod_eq_emod_of_nonneg hj0]; omega
                have hm2 : (j : Int) % 2 = 1 := by omega
                clear hj1 hv1 hv2
                go_wp2_with fail
                go_quiet ((go_at_call 17; exact Calls.quiet_of_same (HTX.out _)))
                go_wp2
                go_meet
                exact ⟨rfl, _, rfl⟩
            case rest =>
              obtain ⟨rfl, kc, hwc⟩ := hcut
              have hbc : Below X.heap.size X wc := by rw [hwc]; exact below_drewN (Below.refl _ _) kc
              have hbw : Below wr.heap.size wr wc := HBX.out.trans (hbc.mono HBX.out.size)
              clear hwc
              have hTc := HT.out.later hbw
              have hcs := hTc.cell HS0.out
              have hfs := hTc.free
              have hlc := hbw.size
              have HT2 := Nu.hid (hTc.set (i := j) (by rw [HSN.out.1]; exact HJM.out) 1)
              have HW2 := Nu.hid ((HWT.out.later hbw).setCell (b := w2.heap.size) (i := j) rfl (.int .i64 1))
              have hb6 : Below w2.heap.size w2 (wc.setCell ⟨w2.heap.size, j, none⟩ (.int .i64 1)) := (HBX2.out.trans (hbc.mono HBX2.out.size)).setCell (p := ⟨w2.heap.size, j, none⟩) (Nat.le_refl _) _
              have haf := after_any _ m es j _ (HADJ.out _ hb6)
              have e6 : Cs.afterI m es (j : Int) = Z.getD (i + 1) (-1) := by
                unfold Cs.afterI
                rw [if_pos ⟨by omega, by have := HJM.out; omega⟩, Int.toNat_natCast, HJF.out, HJC.out, HZ.out]
              rw [e6] at haf
              have HAF := Nu.hid haf
              clear hbc hbw hTc hb6 haf e6
              go_wp2_with (go_at_call 18; refine HAF.out.mono ?_; rintro r w7 ⟨rfl, k7, hw7⟩; refine Hid.out ?_)
              refine Nu.hid ?_
              clear hw7
              go_wp2
              go_roundw
              case rel => exact ⟨i + 1, _, by omega, by go_num, by first | rfl | trivial, HSN2.out, HT2.out.drewN _, HW2.out.drewN _⟩
              case measure => simp [intOf]; omega
        · have hd : ¬ ((i : Int) < (L : Int)) := by omega
          obtain rfl : i = L := by omega
          have hgd : Z.getD i (-1) = -1 := by rw [List.getD_eq_getElem?_getD, List.getElem?_eq_none (by have := HL.out; omega)]; rfl
          rw [hgd]
          have hsn3 : Seen es (v + 1) 0 T := by
            have := HSN.out
            rw [HLO.out] at this
            exact this.next
          have HSN3 := Nu.hid hsn3
          clear hsn hT hwt hbt hgt hgd hsn3 x0 x1
          go_wp2
          go_roundw
          case rel => exact ⟨v + 1, T, by omega, by go_num, by rw [HSTL.out]; go_num, HSN3.out, HT.out, HBT.out⟩
          case measure => simp [intOf]; omega
    · have hd : ¬ ((v : Int) < (m : Int)) := by omega
      obtain rfl : v = m := by omega
      have hone : ∀ k, k < M → S[k]? = some 1 := fun k hk => by
        have h1 := hseen.2 k (by have := HM.out; omega)
        rw [if_pos (.inl (HFRL.out k (by have := HM.out; omega)))] at h1
        exact h1
      have hsum : Cs.st es M v = M := by
        rw [HM.out]
        exact Cs.st_sum _ HFRL.out
      have hSl : S.length = M := by rw [hseen.1, HM.out]
      have HONE := Nu.hid hone
      rw [hsum]
      clear hseen hS hgr hone hsum
      go_wp2
      clear x0 x1
      go_loopw [13] (fun cv wt => ∃ k : Nat, k ≤ M ∧ cv = .int .i64 k ∧ wt = wr) (fun cv _ => M - (intOf cv).toNat)
      case atStart => exact ⟨0, Nat.zero_le _, rfl, rfl⟩
      case round =>
        obtain ⟨k, hk, rfl, rfl⟩ := hrel
        by_cases hkl : k < M
        · have hklt : (k : Int) < (M : Int) := by omega
          have hk0 : (0 : Int) ≤ (k : Int) := by omega
          have hc := HS.out.cell (HONE.out k hkl)
          clear hbr
          go_wp2
          go_roundw
          case rel => exact ⟨k + 1, by omega, by go_num, by first | rfl | trivial⟩
          case measure => simp [intOf]; omega
        · have hd2 : ¬ ((k : Int) < (M : Int)) := by omega
          have HAM := Nu.hid (aM_any _ v es wr (HADJ.out wr HBR.out))
          have hmi := HMI.out
          have t1 : ((M : Int) == 2 * (es.length : Int)) = true := by simp; omega
          clear hbr hmi
          go_wp2_with (go_at_call 11; refine HAM.out.mono ?_; rintro e wz ⟨rfl, rfl⟩)
          go_ret
          exact ⟨rfl, HB2.out.trans (HBR.out.mono HB2.out.size)⟩

set_option maxRecDepth 100000 in
/-- What the walk gives, for every argument and every world. -/
theorem contract (H : Type) (enc : TypeId × Value → H) (W : World) (base : Nat) (args : Array Value) (ds gs : List (DataW H)) (before : List MemPlace)
    (hval : ∀ (j : Nat) t v, Try.f4.params[j]? = some t → args[j]? = some v → Value.okWide Try.prog W .any base t v)
    (hW : DataW.Whole enc Try.prog Try.f4.params.toList Rows.csrShapeSpec.vars false W args.toList ds gs before)
    (hsz : (DataW.weightsEach Try.prog (Try.f4.params.toList ++ (OpenSpec.ofChange Rows.csrShapeSpec).bare.plain.varTypes Try.prog) (ds ++ gs)).all (· ≤ reachBytes) = true)
    :
    Calls Try.prog 4 args W fun e W' => ∃ v, e = .returned v ∧ Rows.csrShapeSpec.post enc Try.prog Try.f4 false true false false W args v W' := by
  have hW' := hW
  obtain ⟨p, q, hA0, hV, rfl, hfz, hnd⟩ := hW
  have hA : DataW.TrodAll enc Try.prog W 0 (fun _ => true) true Try.f4.params.toList args.toList ds p := hA0
  rw [Try.params4] at hA hval hsz
  obtain ⟨v0, vs0, d0, ds0, p0, q0, hargs, rfl, rfl, h0, r0⟩ := trodAll_cons hA
  obtain ⟨rfl, rfl, rfl⟩ := trodAll_nil r0
  obtain rfl : args = #[v0] := by cases args; simp_all
  obtain ⟨rfl, rfl⟩ := trodVars_none hV
  have k0 := h0
  have lt0 : ∀ x ∈ p0, x.block < W.heap.size := by obtain ⟨m, hm⟩ := k0; exact DataW.trod_lt m _ _ _ hm
  obtain ⟨n0, a0, cap0, q0, rfl, x0, w0, u0⟩ := graph_of_trod (j := 0) (hval 0 24 v0 rfl rfl) h0 hsz rfl rfl
  clear hA0
  refine (walk n0 a0 cap0 q0 W x0 w0 u0).mono fun e W' ⟨he, bel⟩ => ?_
  subst he
  exact ⟨_, rfl, _, _, _, [], _, [], hW', trodAll_mk1 (shut_bool Try.underlying4 _), (trodAll_cons_mk (Below.trod laidOut (by kernel_rfl) (of_decide_eq_true (by kernel_rfl)) k0 bel lt0) trodAll_mk0), rfl, bel.frame _, fun h => by cases h⟩

theorem laid_met (os : Os) : laidMet Try.prog Rows.csrShapeRow.laid ((settled os).forCall (fun _ _ => 0) ⟨#[], #[.agg #[.int .i64 0, .slice none 0 0]], []⟩).memory :=
  laidMet_of_run' 100 (by kernel_rfl) (by kernel_rfl)
theorem reads (os : Os) {H : Type} (enc : TypeId × Value → H) : ∃ places, DataW.whole enc Try.prog ((settled os).forCall (fun _ _ => 0) ⟨#[], #[.agg #[.int .i64 0, .slice none 0 0]], []⟩).memory Try.f4.params.toList Rows.csrShapeSpec.vars false (#[.agg #[.int .i64 0, .slice none 0 0]] : Array Value).toList 8 = some ([.agg [.lit (.int .i64 0), .nil]], [], places) :=
  ⟨[], by kernel_rfl⟩

set_option maxRecDepth 100000 in
theorem lifted (os : Os) (started : os.Started) (H : Type) (enc : TypeId × Value → H) (F : Stop.Interp) :
    ReturnsInHanded {} Try.checked os 4 .any ((OpenSpec.ofChange Rows.csrShapeSpec).preRow enc Try.prog Try.f4 Rows.csrShapeRow.domain false Rows.csrShapeRow.laid) (((OpenSpec.ofChange Rows.csrShapeSpec).at F).post enc Try.prog Try.f4 false true false false) := by
  obtain ⟨places, hx⟩ := reads os enc
  refine returnsInHanded_of_row (C := Try.checked) (s := (OpenSpec.ofChange Rows.csrShapeSpec)) own started (by kernel_rfl) Try.func4
    (witness_row_at (enc := enc) (C := Try.checked) false (settled os) #[.agg #[.int .i64 0, .slice none 0 0]] rfl (by kernel_rfl) (by kernel_rfl) (by kernel_rfl)
      (OpenSpec.preRow_of_cond 8 hx (by kernel_rfl) (fun k hk => by cases hk) (by kernel_rfl) (laid_met os))) ?_
  intro W base args ds gs before hval hW _ _ hsz _ _ _
  exact contract H enc W base args ds gs before hval hW hsz 

theorem said : Rows.CsrShapeSaid :=
  OpenClaim.holds_of_cond 4 Try.f4 rfl rfl rfl rfl rfl rfl rfl ⟨rfl, rfl, rfl, rfl, rfl⟩ rfl rfl rfl rfl rfl (by kernel_rfl) Try.func4 (by kernel_rfl)
    (of_decide_eq_true (by kernel_rfl)) (by unfold Func.isWrapper; first | (rw [if_pos (by decide +kernel)]; kernel_rfl) | (rw [if_neg (by decide +kernel)]; exact ⟨rfl, rfl⟩))
    (fun os started H enc _ F => by rw [OpenClaim.pre_eq_preRow]; exact lifted os started H enc F)

end lawShape

theorem csrShape_holds : Rows.CsrShapeSaid := lawShape.said

#print axioms csrShape_holds
end Go.Proofs.Ytlnkcebfnamdcaa
