/-
  The document's Chain of layer 15.
-/
import Derived.Test.YtdhaaodalchpkaaMgU
namespace Go.Proofs.Ytdhaaodalchpkaa
open Go.RowKit Go.Sort

namespace Ku
section
variable {es : List (Int × Int)} {n : Int} {hv : Si.Val n es}

theorem turn_ZL (c : List Nat) (L k : Nat) (i : Nat) : turnI (ZL c) L k i = ZL ((List.range i).map fun t => at_ c ((k + t) % L)) := by
  unfold turnI ZL
  rw [List.map_map]
  exact List.map_congr_left fun t _ => gI_ZL c _

/-- A round's chain, as the document makes it. -/
theorem ch_round {e : Nat} (he : e < es.length) (c : Cyc (gs es hv).toSys (all (gs es hv).toSys (2 * e))) {k : Nat} (hk : k < (all (gs es hv).toSys (2 * e)).length)
    (hmin : ∀ i, i < (all (gs es hv).toSys (2 * e)).length → gI (ZL (vs (gs es hv) (all (gs es hv).toSys (2 * e)))) k ≤ gI (ZL (vs (gs es hv) (all (gs es hv).toSys (2 * e)))) i) :
    writtenI (turnI (ZL (vs (gs es hv) (all (gs es hv).toSys (2 * e)))) (all (gs es hv).toSys (2 * e)).length k (all (gs es hv).toSys (2 * e)).length ++ [gI (ZL (vs (gs es hv) (all (gs es hv).toSys (2 * e)))) k]) = ZL (vs (gs es hv) (ch es hv e)) := by
  have hh : 2 * e < (gs es hv).toSys.M := show 2 * e < 2 * es.length by omega
  obtain ⟨_, _, lt, hd, _⟩ := all_spec hh
  have h00 := List.mem_of_mem_head? hd
  obtain ⟨l, cl, ltl, ml, sub, hvs⟩ := c.turn lt hk (fun i hi => by
    have := hmin i hi
    rw [gI_ZL, gI_ZL] at this
    omega)
  obtain ⟨l', cn, hw, hin⟩ := cl.written ltl ml
  have hc : ch es hv e = l' := by
    rcases hin _ (sub _ h00) with h | h
    · exact ch_is cn h (by omega)
    · exact ch_is cn h (by show Cs.twin (2 * e) / 2 = e; rw [twin_half]; omega)
  rw [hc, hw, ← written_ZL, hvs, turn_ZL, gI_ZL]
  congr 1
  simp [ZL]
/-- Another chain, as the document makes it. -/
theorem ch_open {e : Nat} (he : e < es.length) (hend : ∀ a, (all (gs es hv).toSys (2 * e))[(all (gs es hv).toSys (2 * e)).length - 1]? = some a → nxt es a = none) :
    writtenI ((ZL (vs (gs es hv) (all (gs es hv).toSys (2 * e + 1)))).reverse ++ (ZL (vs (gs es hv) (all (gs es hv).toSys (2 * e)))).drop 2) = ZL (vs (gs es hv) (ch es hv e)) := by
  have hh : 2 * e < (gs es hv).M := show 2 * e < 2 * es.length by omega
  obtain ⟨l, o, h1, ltl, hvs, _⟩ := both_ways (S := gs es hv) hh hend
  have ht : (gs es hv).tw (2 * e) = 2 * e + 1 := by show Cs.twin (2 * e) = _; unfold Cs.twin; rw [if_pos (by omega)]
  rw [ht] at hvs
  obtain ⟨l', cn, hw, hin⟩ := o.written ltl
  have hc : ch es hv e = l' := by
    rcases hin _ h1 with h | h
    · exact ch_is cn h (by omega)
    · exact ch_is cn h (by show Cs.twin (2 * e) / 2 = e; rw [twin_half]; omega)
  rw [hc, hw, ← written_ZL, hvs]
  congr 1
  unfold ZL
  rw [List.map_append, List.map_reverse, List.map_drop]

theorem last_to {T : List Nat} {x : Nat} (hx : T[T.length - 1]? = some x) : (ZL (vs (gs es hv) T))[T.length]? = some (Cs.to es x : Int) := by
  have hp := (List.getElem?_eq_some_iff.1 hx).1
  rw [ZL_at, show T.length = (T.length - 1) + 1 by omega, vs_succ, hx]
  show some (((gs es hv).to x : Nat) : Int) = _
  rw [gs_to]
end
end Ku

set_option maxRecDepth 100000 in
set_option maxHeartbeats 8000000 in
theorem kchain_any (n : Nat) (ao : Option Addr) (cap : Nat) (es : List (Int × Int)) (da : Option Addr) (dc : Nat) (w : World) (hv : Si.Val (n : Int) es) (he : EdgesAt w ao es) (hd : IntsAt w da (Si.degs (n : Int) es)) (ee : Nat) (hee : ee < es.length) :
    Calls Try.prog 27 #[.agg #[.int .i64 (n : Int), .slice ao es.length cap], .slice da n dc, .int .i64 (ee : Int)] w fun e w' => ∃ v, e = .returned v ∧ OwnZ w' w.heap.size v (Ku.ZL (Ku.vs (Ku.gs es hv) (Ku.ch es hv ee))) ∧ Below w.heap.size w w' := by
  obtain ⟨W, hW⟩ : ∃ W, W = w.alloc (.cells #[.int .i64 (n : Int), .slice ao es.length cap] 24) := ⟨_, rfl⟩
  have hB0 : Below w.heap.size w W := by rw [hW]; exact (Below.refl _ _).alloc (Nat.le_refl _) _
  have g1 : W.heap[w.heap.size]? = some (.cells #[.int .i64 (n : Int), .slice ao es.length cap] 24 (0, 0)) := by rw [hW]; exact heap_alloc_new w _
  have hfew := hv.few
  have hh : 2 * ee < (Ku.gs es hv).toSys.M := show 2 * ee < 2 * es.length by omega
  obtain ⟨⟨p1, p2⟩, hp⟩ : ∃ p, es[ee]? = some p := ⟨_, List.getElem?_eq_getElem hee⟩
  have hok := hv.each _ _ hp
  unfold Si.ok at hok
  dsimp only at hok
  have f1 := Cs.fr_even hp
  have f2 := Cs.fr_odd hp
  dsimp only at f1 f2
  have HGO : Hid (∀ (U : World), Below W.heap.size W U → Calls Try.prog 46 #[.agg #[.int .i64 (n : Int), .slice ao es.length cap], .slice da n dc, .int .i64 p1, .int .i64 (ee : Int)] U fun e w' => ∃ v, e = .returned v ∧ OwnZ w' U.heap.size v (Ku.ZL (Ku.vs (Ku.gs es hv) (Ku.all (Ku.gs es hv).toSys (2 * ee)))) ∧ Below U.heap.size U w') := fun U hU => by
    have := kgo_any n ao cap es da dc U hv ((he.later hB0).later hU) ((hd.later hB0).later hU) (2 * ee) hh
    rw [f1.1, show 2 * ee / 2 = ee by omega, show ((p1.toNat : Nat) : Int) = p1 by omega] at this
    exact this
  have HGB : Hid (∀ (U : World), Below W.heap.size W U → Calls Try.prog 46 #[.agg #[.int .i64 (n : Int), .slice ao es.length cap], .slice da n dc, .int .i64 p2, .int .i64 (ee : Int)] U fun e w' => ∃ v, e = .returned v ∧ OwnZ w' U.heap.size v (Ku.ZL (Ku.vs (Ku.gs es hv) (Ku.all (Ku.gs es hv).toSys (2 * ee + 1)))) ∧ Below U.heap.size U w') := fun U hU => by
    have := kgo_any n ao cap es da dc U hv ((he.later hB0).later hU) ((hd.later hB0).later hU) (2 * ee + 1) (by omega)
    rw [f2.1, show (2 * ee + 1) / 2 = ee by omega, show ((p2.toNat : Nat) : Int) = p2 by omega] at this
    exact this
  obtain ⟨T, hT⟩ : ∃ T, Ku.all (Ku.gs es hv).toSys (2 * ee) = T := ⟨_, rfl⟩
  obtain ⟨-, hnd, hTlt, -⟩ := Ku.all_spec hh
  have hT0 := Ku.all_zero hh
  have hTc := Ku.all_cases hh
  have hTp := Ku.all_len hh
  have hTcyc := fun c k hk hmin => Ku.ch_round (hv := hv) hee c (k := k) hk hmin
  have hTop := fun hend => Ku.ch_open (hv := hv) hee hend
  obtain ⟨B, hB⟩ : ∃ B, Ku.all (Ku.gs es hv).toSys (2 * ee + 1) = B := ⟨_, rfl⟩
  have hBne : B ≠ [] := by
    have hh2 : 2 * ee + 1 < (Ku.gs es hv).toSys.M := show 2 * ee + 1 < 2 * es.length by omega
    have := Ku.all_len hh2
    rw [hB] at this
    exact List.length_pos_iff.1 this
  have hBl : B.length ≤ 8388608 := by
    have hh2 : 2 * ee + 1 < (Ku.gs es hv).toSys.M := show 2 * ee + 1 < 2 * es.length by omega
    obtain ⟨-, hnd2, hTlt2, -⟩ := Ku.all_spec hh2
    have := Ku.few_below hnd2 hTlt2
    have h2 : (Ku.gs es hv).toSys.M = 2 * es.length := rfl
    rw [hB] at this
    omega
  rw [hT] at HGO hnd hTlt hT0 hTc hTp hTcyc hTop
  rw [hB] at HGB hTop
  have hTl : T.length ≤ 8388608 := by
    have := Ku.few_below hnd hTlt
    have h2 : (Ku.gs es hv).toSys.M = 2 * es.length := rfl
    omega
  have hTne : T ≠ [] := List.length_pos_iff.1 hTp
  obtain ⟨c1, hc1⟩ : ∃ c1, c1 = Ku.ZL (Ku.vs (Ku.gs es hv) T) := ⟨_, rfl⟩
  have hl1 : c1.length = T.length + 1 := by rw [hc1, Ku.ZL_length, Ku.vs_length hTne]
  obtain ⟨c2, hc2⟩ : ∃ c2, c2 = Ku.ZL (Ku.vs (Ku.gs es hv) B) := ⟨_, rfl⟩
  have hl2 : c2.length = B.length + 1 := by rw [hc2, Ku.ZL_length, Ku.vs_length hBne]
  obtain ⟨R, hR⟩ : ∃ R, R = Ku.ZL (Ku.vs (Ku.gs es hv) (Ku.ch es hv ee)) := ⟨_, rfl⟩
  obtain ⟨lx, hlx⟩ : ∃ lx, T[T.length - 1]? = some lx := ⟨_, List.getElem?_eq_getElem (by omega)⟩
  have hlast := Ku.last_to (hv := hv) hlx
  rw [← hc1] at hlast hTcyc hTop HGO
  rw [← hc2] at HGB hTop
  rw [← hR] at hTcyc hTop ⊢
  have hlxl : lx < 2 * es.length := hTlt lx (List.mem_of_getElem? hlx)
  have htn := (Cs.half_lt hv hlxl).2
  have hdl := Ku.deg_at hv htn
  have hdu := Ku.deg_at hv (show p1.toNat < n by omega)
  obtain ⟨tl, htl⟩ : ∃ tl, tl = Cs.to es lx := ⟨_, rfl⟩
  rw [← htl] at hlast htn hdl
  obtain ⟨du, hdu'⟩ : ∃ du, (Ku.dg es p1.toNat : Int) = du := ⟨_, rfl⟩
  obtain ⟨dl, hdl'⟩ : ∃ dl, (Ku.dg es tl : Int) = dl := ⟨_, rfl⟩
  rw [hdu'] at hdu
  rw [hdl'] at hdl
  -- a round, or not
  have hkind : (Ku.Cyc (Ku.gs es hv).toSys T ∧ (du == 2) = true ∧ (dl == 2) = true) ∨ ((∀ a, T[T.length - 1]? = some a → Ku.nxt es a = none) ∧ (dl == 2) = false) := by
    rcases hTc with ⟨c, _⟩ | ⟨_, _, hend⟩
    · left
      have hn : Ku.nxt es lx = some (2 * ee) := c.rnd lx (2 * ee) hlx hT0
      have h2 : Ku.dg es tl = 2 := by
        rw [htl]
        refine Classical.byContradiction fun hc => ?_
        rw [(Ku.nxt_none hlxl).2 hc] at hn
        cases hn
      obtain ⟨_, _, _, _, _, hfr⟩ := Ku.next_at hv hn
      have h3 : p1.toNat = tl := by rw [htl, ← hfr, f1.1]
      refine ⟨c, ?_, by rw [← hdl', h2]; rfl⟩
      rw [← hdu', h3, h2]
      rfl
    · right
      refine ⟨hend, ?_⟩
      have := (Ku.nxt_none hlxl).1 (hend lx hlx)
      rw [← htl] at this
      rw [← hdl']
      simp
      omega
  have HK := Nu.hid hkind
  have HCY := Nu.hid hTcyc
  have HOP := Nu.hid hTop
  have HE := Nu.hid (he.later hB0)
  have HD := Nu.hid (hd.later hB0)
  have HDU := Nu.hid hdu
  have HDL := Nu.hid hdl
  have HB0 := Nu.hid hB0
  have HW := Nu.hid hW
  have HG := Nu.hid g1
  have HLA := Nu.hid hlast
  have HL1 := Nu.hid hl1
  have HL2 := Nu.hid hl2
  have HBP : Hid (0 < B.length) := List.length_pos_iff.2 hBne
  obtain ⟨eb, eo, rfl, x0, x1⟩ := HE.out ee _ hp
  dsimp only at x0 x1
  obtain ⟨q0, q1, -⟩ := pair_cells g1
  have he0 : (0 : Int) ≤ (ee : Int) := by omega
  have he1 : (ee : Int) < (es.length : Int) := by omega
  obtain ⟨K, hK⟩ : ∃ K, K = T.length := ⟨_, rfl⟩
  rw [← hK] at HL1 HLA HCY hTp hTl
  have HKT := Nu.hid hK
  clear hK
  have HCAL := Nu.hid (HGO.out W (Below.refl _ _))
  have hp0 : (0 : Int) ≤ p1 := hok.1
  have hp1n : p1 < (n : Int) := by omega
  have htl0 : (0 : Int) ≤ (tl : Int) := by omega
  have htl1 : (tl : Int) < (n : Int) := by omega
  have hws := HB0.out.size
  obtain ⟨pu, rfl⟩ : ∃ pu : Nat, p1 = (pu : Int) := ⟨p1.toNat, by omega⟩
  rw [Int.toNat_natCast] at HDU
  rw [hW] at x0 x1 q0 q1
  clear he hd hB0 g1 hW hnd hTlt hp hT hB hTc hTcyc hTop hkind hlast hdu hdl hdu' hdl' hc1 hc2 hR hlx hok f1 f2 hh hT0 hl1 hl2 htl htn hTne hBne hlxl
  go_enter Try.func27, Try.ntmps27
  go_wp2_with (go_at_call 46; rw [← HW.out]; refine HCAL.out.mono ?_; rintro e w1 ⟨v, rfl, ho, hb1⟩; refine Hid.out ?_)
  refine Nu.hid ?_
  obtain ⟨ta, tc, hve, hti, -⟩ := ho.form
  rw [HL1.out] at hve
  have htc : K + 1 ≤ tc := by
    have ho' := ho
    unfold OwnZ at ho'
    rw [HL1.out, hve] at ho'
    rcases ho'.2 with ⟨e, h0⟩ | ⟨g, c, cur, e, _, _, hcc, _⟩
    · omega
    · cases e
      exact hcc
  subst hve
  obtain ⟨K1, hK1⟩ : ∃ K1, K1 = K + 1 := ⟨_, rfl⟩
  rw [← hK1] at htc ⊢
  have HK1 := Nu.hid hK1
  have hwK : IntKind.i64.wrap ((K1 : Int) - 1) = (K : Int) := by rw [IntKind.wrap_i64]; omega
  have hK0 : (0 : Int) ≤ (K : Int) := by omega
  have hKK : (K : Int) < (K1 : Int) := by omega
  have HTI := Nu.hid hti
  have HB1 := Nu.hid hb1
  obtain ⟨tb, tof, rfl, y0⟩ := hti K _ HLA.out
  obtain ⟨db, dof, rfl, y1⟩ := (HD.out.later hb1) pu _ HDU.out
  obtain ⟨_, _, e9, y2⟩ := (HD.out.later hb1) tl _ HDL.out
  cases e9
  have hs1 := hb1.size
  clear ho hti hb1 x0 x1 q0 q1 HCAL hK1
  rcases HK.out with ⟨hcyc, t1, t2⟩ | ⟨hend, t2⟩
  · have HCC := Nu.hid (kcycle_any (some ⟨tb, tof, none⟩) K1 tc K c1 w1 (by rw [HL1.out, HK1.out]) HTI.out HK1.out (by omega) htc (by have := HK1.out; omega))
    have HCYC := Nu.hid hcyc
    clear hcyc HK
    go_wp2_with (go_at_call 47; refine HCC.out.mono ?_; rintro e w2 ⟨k, v, hk, hmin, rfl, ho, hb2⟩; refine Hid.out ?_)
    refine Nu.hid ?_
    have HF := Nu.hid (HCY.out HCYC.out k (by first | exact hk | (rw [← HKT.out]; exact hk)) (by first | exact hmin | (rw [← HKT.out]; exact hmin)))
    have HO := Nu.hid ho
    have HB2 := Nu.hid (HB1.out.trans (hb2.mono HB1.out.size))
    clear hmin ho hb2
    go_wp2
    go_ret
    refine ⟨_, rfl, ?_, HB0.out.trans (HB2.out.mono HB0.out.size)⟩
    rw [← HF.out]
    exact HO.out.lower (by omega)
  · have HCB := Nu.hid (HGB.out w1 HB1.out)
    have HEN := Nu.hid (HOP.out hend)
    obtain ⟨q0, q1, -⟩ := pair_cells ((HB1.out.block _ (lt_of_block HG.out)).trans HG.out)
    clear hend HK
    obtain ⟨tu, htu⟩ : ∃ tu, (du == 2) = tu := ⟨_, rfl⟩
    cases tu
    all_goals
      go_wp2_with (go_at_call 46; refine HCB.out.mono ?_; rintro e w2 ⟨v, rfl, ho, hb2⟩; refine Hid.out ?_)
      refine Nu.hid ?_
      obtain ⟨ba, bc, hve, hbi, -⟩ := ho.form
      obtain ⟨Kb, hKb⟩ : ∃ Kb, c2.length = Kb := ⟨_, rfl⟩
      rw [hKb] at hve
      subst hve
      have HKB := Nu.hid hKb
      have HB12 := Nu.hid hb2
      have HTI2 := Nu.hid (HTI.out.later hb2)
      have hs2 := hb2.size
      have HCT := Nu.hid (kturned_any ba Kb bc c2 w2 hKb hbi (by have := HL2.out; omega))
      clear ho hbi hb2 q0 q1 y0 y1 y2 hKb
      go_wp2_with (go_at_call 48; refine HCT.out.mono ?_; rintro e w3 ⟨v, rfl, ho, hb3⟩; refine Hid.out ?_)
      refine Nu.hid ?_
      have HO3 := Nu.hid ho
      have HB13 := Nu.hid (HB12.out.trans (hb3.mono HB12.out.size))
      have hs3 := hb3.size
      clear ho hb3
      go_wp2
      go_loopw [12, 13] (fun v cv wr => ∃ (i : Nat), i ≤ K1 ∧ 2 ≤ i ∧ cv = .int .i64 (i : Int) ∧ OwnZ wr w1.heap.size v (c2.reverse ++ (c1.take i).drop 2) ∧ Below w1.heap.size w1 wr) (fun _ cv _ => K1 - (intOf cv).toNat)
      case atStart =>
        refine ⟨2, by have := HK1.out; omega, Nat.le_refl _, rfl, ?_, HB13.out⟩
        rw [List.drop_of_length_le (by rw [List.length_take]; omega), List.append_nil]
        exact HO3.out.lower hs2
      case round =>
        obtain ⟨i, hi, h2i, rfl, hown, hb⟩ := hrel
        have HOWN := Nu.hid hown
        have HB := Nu.hid hb
        have hs0 := hb.size
        have hwi : IntKind.i64.wrap ((i : Int) + 1) = (i : Int) + 1 := by rw [IntKind.wrap_i64]; have := HK1.out; omega
        have hlen : (c2.reverse ++ (c1.take i).drop 2).length ≤ 17592186044000 := by
          rw [List.length_append, List.length_reverse, List.length_drop, List.length_take]
          have := HL2.out
          have := HL1.out
          omega
        have HLEN := Nu.hid hlen
        by_cases hlt : i < K1
        · have hlti : (i : Int) < (K1 : Int) := by omega
          have hi0 : (0 : Int) ≤ (i : Int) := by omega
          obtain ⟨y, hy⟩ : ∃ y, c1[i]? = some y := ⟨_, List.getElem?_eq_getElem (by rw [HL1.out, ← HK1.out]; exact hlt)⟩
          obtain ⟨_, _, e9, z0⟩ := (HTI.out.later hb) i y hy
          cases e9
          have HTK : Hid (c2.reverse ++ (c1.take (i + 1)).drop 2 = c2.reverse ++ (c1.take i).drop 2 ++ [y]) := by
            show _ = _
            rw [List.take_add_one, hy, List.drop_append_of_le_length (by rw [List.length_take, HL1.out]; have := HK1.out; omega), List.append_assoc]
            rfl
          clear hown hb hy hlen
          go_wp2_with (at_builtin; refine wpList_push rfl _ _ rfl _ w1.heap.size _ _ y HOWN.out hs0 HLEN.out rfl rfl ?_; refine Hid.out ?_)
          refine Nu.hid ?_
          intro v' w5 hrow5 _ _ hb5
          have HROW5 := Nu.hid hrow5
          have HB5 := Nu.hid (HB.out.trans hb5)
          clear hrow5 hb5
          go_wp2
          go_roundw
          case rel => exact ⟨i + 1, by omega, by omega, by go_num, by rw [HTK.out, List.append_assoc]; exact HROW5.out, HB5.out⟩
          case measure => simp [intOf]; omega
        · have hd9 : ¬ ((i : Int) < (K1 : Int)) := by omega
          have hall : c1.take i = c1 := List.take_of_length_le (by rw [HL1.out]; have := HK1.out; omega)
          rw [hall] at HOWN hlen
          have hown' := HOWN.out
          obtain ⟨la, lc, hve, -, -⟩ := hown'.form
          obtain ⟨Q, hQ⟩ : ∃ Q, (c2.reverse ++ c1.drop 2).length = Q := ⟨_, rfl⟩
          rw [hQ] at hve hlen
          subst hve
          have hQ2 : 2 ≤ Q := by
            rw [← hQ, List.length_append, List.length_reverse]
            have := HL2.out
            have := HBP.out
            omega
          have HWR := Nu.hid (kwritten_any w1.heap.size la Q lc _ wr hQ hown' hs0 hQ2 hlen)
          clear hown hb hlen hall hown' hQ
          go_wp2_with (go_at_call 49; refine HWR.out.mono ?_; rintro e w6 ⟨v, rfl, ho, hb6⟩; refine Hid.out ?_)
          refine Nu.hid ?_
          have HO6 := Nu.hid ho
          have HB6 := Nu.hid (HB.out.trans (hb6.mono HB.out.size))
          clear ho hb6
          go_wp2
          go_ret
          refine ⟨_, rfl, ?_, HB0.out.trans ((HB1.out.trans (HB6.out.mono HB1.out.size)).mono HB0.out.size)⟩
          rw [← HEN.out]
          exact HO6.out.lower (by omega)

end Go.Proofs.Ytdhaaodalchpkaa
