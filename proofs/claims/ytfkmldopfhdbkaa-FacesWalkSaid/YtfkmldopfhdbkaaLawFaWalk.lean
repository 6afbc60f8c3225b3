/-
  Proved: for every graph and every rotation the law FacesWalk answers true, and both read afterwards as before. No condition.
-/
import Derived.Test.YtfkmldopfhdbkaaMg18
import Derived.Test.YtfkmldopfhdbkaaFaY
import Derived.Test.YtfkmldopfhdbkaaMg13
import Derived.Test.YtfkmldopfhdbkaaRoRv
import Derived.Test.YtfkmldopfhdbkaaLwQ
namespace Go.Proofs.Ytfkmldopfhdbkaa
open Go.ChangeShapes Go.WideShapes Go.ChangeAt Go.RowKit
namespace lawFW

set_option maxRecDepth 100000 in
set_option maxHeartbeats 32000000 in
theorem walk (n : Int) (ao : Option Addr) (ca : Nat) (es : List (Int × Int)) (xo : Option Addr) (xc : Nat) (ls : List (List Int)) (w : World) (_ : -9223372036854775808 ≤ n ∧ n ≤ 9223372036854775807) (hq : PairsIn w ao es.length ca es) (hl : es.length * 16 ≤ 140737488351232) (hx : RowsIn w xo ls.length xc ls) :
    Calls Try.prog 4 #[.agg #[.int .i64 n, .slice ao es.length ca], .slice xo ls.length xc] w fun e w' => e = .returned (.bool true) ∧ Below w.heap.size w w' := by

  obtain ⟨W, hW⟩ : ∃ W, W = w.alloc (.cells #[.int .i64 n, .slice ao es.length ca] 24) := ⟨_, rfl⟩
  have hG0 : GS w n ao ca es xo ls W := ⟨by rw [hW]; exact .start hq.hat hx.hat, hl, by have := hx.hsm; omega⟩
  have HWK := Nu.hid (wakes12_any W)
  have HWW := Nu.hid hW
  have HG0 := Nu.hid hG0
  have hl24 := hG0.l24
  obtain ⟨C, hC⟩ : ∃ C, C = (Ro.check n es ls).2 := ⟨_, rfl⟩
  have HC := Nu.hid hC
  have HEI : Hid (es.length ≤ 4611686018427387904) := by show es.length ≤ 4611686018427387904; omega
  clear hq hx hG0 hW hC
  go_enter Try.func4, Try.ntmps4
  go_wp2_with (go_at_call 9; rw [← HWW.out]; refine HWK.out.mono ?_; rintro e W1 ⟨rfl, hb1⟩; refine Hid.out ?_)
  refine Nu.hid ?_
  have HG1 := Nu.hid (HG0.out.later hb1)
  clear hb1 HWK
  have tc : (C != C) = false := by simp
  obtain ⟨x0, x1⟩ := HG1.out.cells
  have HCGA := Nu.hid HG1.out.copyG
  go_wp2_with (go_at_call 11; refine HCGA.out.mono ?_; rintro e W2 ⟨coA, ccA, rfl, he, hb⟩; refine Hid.out ?_)
  refine Nu.hid ?_
  have HG2 := Nu.hid (HG1.out.later hb)
  have HEA := Nu.hid he
  clear he hb x0 x1 HCGA
  have HCRA := Nu.hid (HG2.out.copyR (xc := xc))
  go_wp2_with (go_at_call 12; refine HCRA.out.mono ?_; rintro e W3 ⟨yoA, ycA, rfl, hx, hb⟩; refine Hid.out ?_)
  refine Nu.hid ?_
  have HG3 := Nu.hid (HG2.out.later hb)
  have HXA := Nu.hid hx
  have HFA := Nu.hid (HEA.out.later hb)
  clear hx hb HCRA
  have HCA3 := Nu.hid (HG3.out.of (cc := ccA) (yc := ycA) HFA.out HXA.out)
  rw [← HC.out] at HCA3
  go_wp2_with (go_at_call 10; refine HCA3.out.mono ?_; rintro e W4 ⟨o1, q1, vs1, rfl, hr, hb⟩; refine Hid.out ?_)
  refine Nu.hid ?_
  have HG4 := Nu.hid (HG3.out.later hb)
  have HRF_4 := Nu.hid hr
  clear hb HCA3 hr
  obtain ⟨x0, x1⟩ := HG4.out.cells
  have HCGB := Nu.hid HG4.out.copyG
  go_wp2_with (go_at_call 11; refine HCGB.out.mono ?_; rintro e W5 ⟨coB, ccB, rfl, he, hb⟩; refine Hid.out ?_)
  refine Nu.hid ?_
  have HG5 := Nu.hid (HG4.out.later hb)
  have HRF_5 := Nu.hid (HRF_4.out.later hb)
  have HEB := Nu.hid he
  clear he hb x0 x1 HCGB
  have HCRB := Nu.hid (HG5.out.copyR (xc := xc))
  go_wp2_with (go_at_call 12; refine HCRB.out.mono ?_; rintro e W6 ⟨yoB, ycB, rfl, hx, hb⟩; refine Hid.out ?_)
  refine Nu.hid ?_
  have HG6 := Nu.hid (HG5.out.later hb)
  have HRF_6 := Nu.hid (HRF_5.out.later hb)
  have HXB := Nu.hid hx
  have HFB := Nu.hid (HEB.out.later hb)
  clear hx hb HCRB
  have HCA6 := Nu.hid (HG6.out.left (cc := ccB) (yc := ycB) HFB.out HXB.out)
  rw [← HC.out] at HCA6
  go_wp2_with (go_at_call 15; refine HCA6.out.mono ?_; rintro e W7 ⟨o3, q3, rfl, ho, hb⟩; refine Hid.out ?_)
  refine Nu.hid ?_
  have HG7 := Nu.hid (HG6.out.later hb)
  have HRF_7 := Nu.hid (HRF_6.out.later hb)
  have HOF_7 := Nu.hid ho
  clear hb HCA6 ho
  obtain ⟨x0, x1⟩ := HG7.out.cells
  have HCGD := Nu.hid HG7.out.copyG
  go_wp2_with (go_at_call 11; refine HCGD.out.mono ?_; rintro e W8 ⟨coD, ccD, rfl, he, hb⟩; refine Hid.out ?_)
  refine Nu.hid ?_
  have HG8 := Nu.hid (HG7.out.later hb)
  have HRF_8 := Nu.hid (HRF_7.out.later hb)
  have HOF_8 := Nu.hid (HOF_7.out.later hb)
  have HED := Nu.hid he
  clear he hb x0 x1 HCGD
  have HCRD := Nu.hid (HG8.out.copyR (xc := xc))
  go_wp2_with (go_at_call 12; refine HCRD.out.mono ?_; rintro e W9 ⟨yoD, ycD, rfl, hx, hb⟩; refine Hid.out ?_)
  refine Nu.hid ?_
  have HG9 := Nu.hid (HG8.out.later hb)
  have HRF_9 := Nu.hid (HRF_8.out.later hb)
  have HOF_9 := Nu.hid (HOF_8.out.later hb)
  have HXD := Nu.hid hx
  have HFD := Nu.hid (HED.out.later hb)
  clear hx hb HCRD
  have HNX := Nu.hid (rnext_any n coD ccD es yoD ycD ls W9 HFD.out HEI.out HXD.out)
  unfold graphVal at HNX
  by_cases h0 : C = 0
  · have h0c := h0
    rw [HC.out] at h0c
    have hro := Ro.check_iff.1 h0c
    have hv := Si.valid_iff.1 hro.val
    obtain ⟨N, rfl⟩ : ∃ N : Nat, n = (N : Int) := ⟨n.toNat, by have := hv.lo; omega⟩
    have hfew := hv.few
    have hper := Fa.ph_per hro
    obtain ⟨m, hm⟩ := Fa.orb_ex hper
    have HRO := Nu.hid hro
    have HPER := Nu.hid hper
    have HOR := Nu.hid hm
    subst h0
    rw [Fa.orN_ok rfl, Fa.orN_ok rfl]
    rw [Fa.orN_ok rfl] at HRF_9 HOF_9
    have HNX2 : Hid (Calls Try.prog 22 #[.agg #[.int .i64 (N : Int), .slice coD es.length ccD], .slice yoD ls.length ycD] W9 fun e w' => ∃ gx, e = .returned (.tuple #[.slice (some ⟨gx, 0, none⟩) (2 * es.length) (2 * es.length), .int .i64 0]) ∧ IntsBlk w' gx (Ro.nextL es ls) ∧ Below W9.heap.size W9 w') := by
      refine HNX.out.mono ?_
      rintro e w' ⟨hb, ⟨hc, -⟩ | ⟨-, gx, h1, -, h2⟩⟩
      · exact absurd h0c hc
      · exact ⟨gx, h1, h2, hb⟩
    obtain ⟨M, hM⟩ : ∃ M, M = 2 * es.length := ⟨_, rfl⟩
    obtain ⟨f, hf⟩ : ∃ f, f = Fa.ph es ls := ⟨_, rfl⟩
    obtain ⟨K, hK⟩ : ∃ K, K = (Fa.all es ls).length := ⟨_, rfl⟩
    have hM8 : M ≤ 8388608 := by omega
    have HKE : Hid (K = Co.cntTo (Co.fix m) M) := by rw [hK, hM]; exact Fa.facesZ_len hper hm
    have hKM : K ≤ M := by rw [HKE.out]; exact Co.cntTo_le _ _
    have HALL : Hid (Fa.all es ls = (Fa.facesTo f M M).map Fa.zl) := by rw [hf, hM]; rfl
    have HLEN : Hid ((Fa.facesTo f M M).length = K) := by rw [hK, HALL.out, List.length_map]; exact Nu.hid rfl
    have HLEF : Hid (∀ x, x < M → (Fa.left es ls)[x]? = some (Co.num m x : Int)) := fun x hx => by
      have h1 := Fa.lay_at hper hm (x := x) (by omega) (Fa.facesTo (Fa.ph es ls) (2 * es.length) (2 * es.length)).length (Nat.le_refl _)
      have h2 : Co.num m x < (Fa.facesTo (Fa.ph es ls) (2 * es.length) (2 * es.length)).length := by rw [Fa.facesTo_len hper hm (Nat.le_refl _)]; exact Fa.num_lt hm.norm (by omega)
      rw [if_pos h2] at h1
      exact h1
    have HNXT : Hid (∀ x, x < M → (Ro.nextL es ls)[Cs.twin x]? = some (f x : Int)) := fun x hx => by
      rw [hf, Fa.ph_at (by omega)]
      exact (Fa.sg_at hro (Cs.twin_lt (by omega))).1
    rw [← hM, ← hf] at HPER HOR
    rw [← hM] at HNX2
    have hll : (Fa.left es ls).length = M := by rw [Fa.left_len, hM]
    have hM2 : M % 2 = 0 := by omega
    rw [hll] at HOF_9 ⊢
    rw [← hK] at HRF_9 ⊢
    clear h0c hro hv hper hm hM hf hK hll HNX
    have t0 : ((0 : Int) != 0) = false := rfl
    have tM : ((M : Int) != (M : Int)) = false := by simp
    go_wp2_with (go_at_call 22; refine HNX2.out.mono ?_; rintro e W10 ⟨gx, rfl, hi, hb⟩; refine Hid.out ?_)
    refine Nu.hid ?_
    have HG10 := Nu.hid (HG9.out.later hb)
    have HRF_10 := Nu.hid (HRF_9.out.later hb)
    have HOF_10 := Nu.hid (HOF_9.out.later hb)
    have HNB := Nu.hid hi
    clear hi hb HNX2
    obtain ⟨W, hWe⟩ : ∃ W, W = W10 := ⟨_, rfl⟩
    obtain ⟨B1, HRF⟩ : ∃ B1, Hid (RowsZ W B1 (.slice o1 K q1) vs1 (Fa.all es ls)) := ⟨_, by rw [hWe]; exact HRF_10⟩
    obtain ⟨B2, HOF⟩ : ∃ B2, Hid (OwnZ W B2 (.slice o3 M q3) (Fa.left es ls)) := ⟨_, by rw [hWe]; exact HOF_10⟩
    have HNB2 : Hid (IntsBlk W gx (Ro.nextL es ls)) := by rw [hWe]; exact HNB.out
    have HBW : Hid (Below w.heap.size w W) := by rw [hWe]; exact HG10.out.gr.low
    rw [← hWe]
    clear hWe
    have HFACE : Hid (∀ (U : World), Below W.heap.size W U → ∀ j, j < K → ∃ r p gf bl c, r < M ∧ m r = r ∧ Co.cntTo (Co.fix m) r = j ∧ Fa.IsLen f M r p ∧ o1 = some ⟨gf, 0, none⟩ ∧ U.cell? ⟨gf, j, none⟩ = some (.slice (some ⟨bl, 0, none⟩) p c) ∧ ∀ i, i < p → U.cell? ⟨bl, i, none⟩ = some (.int .i64 (Pl.it f i r : Int))) := fun U hU j hj => by
      have hR := HRF.out.later hU
      obtain ⟨l, hlj⟩ : ∃ l, (Fa.facesTo f M M)[j]? = some l := ⟨_, List.getElem?_eq_getElem (by rw [HLEN.out]; exact hj)⟩
      obtain ⟨r, hr, hmr, rfl, hn⟩ := Fa.face_at HPER.out HOR.out hlj
      obtain ⟨p, hp⟩ := Fa.len_ex HPER.out hr
      have hlz : (Fa.all es ls)[j]? = some (Fa.zl (Fa.way f r p)) := by
        rw [HALL.out, List.getElem?_map, hlj, Fa.face_way hp]
        rfl
      obtain ⟨x, hx⟩ := hR.at' hlz
      have hrow := hR.row j x _ hx hlz
      obtain ⟨gf, c1, e1⟩ : ∃ g c, (Value.slice o1 K q1) = .slice (some ⟨g, 0, none⟩) K c := by
        rcases hR.outer.2 with ⟨e, _⟩ | ⟨g, cap, cur, e, _⟩
        · cases e
          omega
        · cases e
          exact ⟨_, _, rfl⟩
      cases e1
      have hcr := World.ownsRow.cells hR.outer (g := gf) rfl j _ hx
      have ea : ((⟨gf, 0, none⟩ : Addr).add j) = ⟨gf, j, none⟩ := by
        by_cases h0 : j = 0 <;> simp [Addr.add, h0]
      rw [ea] at hcr
      have hlen : (Fa.zl (Fa.way f r p)).length = p := by rw [Fa.zl_len, Fa.way_len]
      have hrow2 := hrow
      unfold OwnZ at hrow2
      rw [hlen] at hrow2
      obtain ⟨p', rfl⟩ : ∃ p', p = p' + 1 := ⟨p - 1, by have := hp.pos; omega⟩
      obtain ⟨bl, cl, rfl⟩ := own_succ hrow2
      refine ⟨r, p' + 1, gf, bl, cl, hr, hmr, hn, hp, rfl, hcr, fun i hi => ?_⟩
      exact OwnZ.cellAt hrow (Fa.zl_at (Fa.way_at hi))
    have HLFC : Hid (∀ (U : World), Below W.heap.size W U → ∀ x, x < M → ∃ bo oo, o3 = some ⟨bo, oo, none⟩ ∧ U.cell? ⟨bo, oo + x, none⟩ = some (.int .i64 (Co.num m x : Int))) := fun U hU x hx => by
      obtain ⟨oo, cc, e, ha, -⟩ := (HOF.out.later hU).form
      cases e
      exact ha x _ (HLEF.out x hx)
    have HNXC : Hid (∀ (U : World), Below W.heap.size W U → ∀ x, x < M → U.cell? ⟨gx, Cs.twin x, none⟩ = some (.int .i64 (f x : Int))) := fun U hU x hx => (HNB2.out.later hU).cell (HNXT.out x hx)
    go_wp2
    go_loopw [11, 12] (fun c11 c12 wr => ∃ j : Nat, j ≤ K ∧ c12 = .int .i64 (j : Int) ∧ c11 = .int .i64 (Fa.tot m M j : Int) ∧ Below W.heap.size W wr) (fun _ c12 _ => K - (intOf c12).toNat)
    case atStart => exact ⟨0, Nat.zero_le _, rfl, by rw [Fa.tot_zero]; rfl, Below.refl _ _⟩
    case round =>
      obtain ⟨j, hj, rfl, rfl, hb⟩ := hrel
      obtain ⟨W0, rfl⟩ : ∃ W0, W0 = wr := ⟨_, rfl⟩
      have HB := Nu.hid hb
      have hwj : IntKind.i64.wrap ((j : Int) + 1) = (j : Int) + 1 := by rw [IntKind.wrap_i64]; omega
      by_cases hjk : j < K
      · have hjki : (j : Int) < (K : Int) := by omega
        have hj0 : (0 : Int) ≤ (j : Int) := by omega
        obtain ⟨r, p, gf, bl, c, hr, hmr, hnum, hlp, rfl, hcr, hce⟩ := HFACE.out W0 hb j hjk
        have hpos := hlp.pos
        have hple := hlp.le
        have hpz : ((p : Int) == 0) = false := by
          have : ¬ (p : Int) = 0 := by omega
          simpa using this
        have hp0 : (0 : Int) < (p : Int) := by omega
        have hc0 := hce 0 hpos
        have hit0 : Pl.it f 0 r = r := rfl
        rw [hit0] at hc0
        have HR := Nu.hid hr
        have HMR := Nu.hid hmr
        have HNU := Nu.hid hnum
        have HLP := Nu.hid hlp
        have HTS := Nu.hid (Fa.tot_succ HPER.out HOR.out hr hmr hnum hlp)
        have HROW : Hid (∀ U, Below W0.heap.size W0 U → U.cell? ⟨gf, j, none⟩ = some (.slice (some ⟨bl, 0, none⟩) p c) ∧ U.cell? ⟨bl, 0, none⟩ = some (.int .i64 (r : Int)) ∧ ∀ i, i < p → U.cell? ⟨bl, i, none⟩ = some (.int .i64 (Pl.it f i r : Int))) := fun U hU => by
          refine ⟨(hU.cell (p := ⟨gf, j, none⟩) (block_lt_of_cell hcr)).trans hcr, (hU.cell (p := ⟨bl, 0, none⟩) (block_lt_of_cell hc0)).trans hc0, fun i hi => (hU.cell (p := ⟨bl, i, none⟩) (block_lt_of_cell (hce i hi))).trans (hce i hi)⟩
        have HIN : Hid (∀ (t : Act) , True) := fun _ => trivial
        have HT0 := Nu.hid (Fa.tot_le (m := m) (n := M) j)
        have HT1 := Nu.hid (Fa.tot_le (m := m) (n := M) (j + 1))
        have hdr : Below W0.heap.size W0 W0.drew := (Below.refl _ _).drew
        by_cases hj1 : j = 0
        · have c1 : ¬ (j : Int) > 0 := by omega
          have c2 : ¬ (0 : Int) < (j : Int) := by omega
          have c4 : ¬ 0 < j := by omega
          clear hb hr hmr hnum hlp hce hit0 hj1 hdr
          have dcr : ∀ D : LW W0, D.val.cell? ⟨gf, j, none⟩ = some (.slice (some ⟨bl, 0, none⟩) p c) := fun D => (HROW.out D.val D.h).1
          have dc0 : ∀ D : LW W0, D.val.cell? ⟨bl, 0, none⟩ = some (.int .i64 (r : Int)) := fun D => (HROW.out D.val D.h).2.1
          have hne := LW.any W0
          clear hcr hc0
          go_wp2_with fail
          refine wp_region_lw (by kernel_rfl) (by kernel_rfl) ?_
          repeat (go_big_quiet_step (fail))
          refine wpQuiet_nil ?_
          rintro _ ⟨E, rfl⟩
          have HBD := Nu.hid E.h
          obtain ⟨WE, hWE⟩ : ∃ WE, WE = E.val := ⟨_, rfl⟩
          rw [← hWE] at HBD ⊢
          clear dcr dc0 hne hWE
          go_wp2
          go_loopw [11, 13] (fun c11 c13 wr => ∃ i : Nat, i ≤ p ∧ c13 = .int .i64 (i : Int) ∧ c11 = .int .i64 ((Fa.tot m M j + i : Nat) : Int) ∧ Below W0.heap.size W0 wr) (fun _ c13 _ => p - (intOf c13).toNat)
          case atStart => exact ⟨0, Nat.zero_le _, rfl, rfl, HBD.out⟩
          case round =>
            obtain ⟨i, hi, rfl, rfl, hb1⟩ := hrel
            obtain ⟨W1, rfl⟩ : ∃ W1, W1 = wr := ⟨_, rfl⟩
            have HB1 := Nu.hid hb1
            have hwi : IntKind.i64.wrap ((i : Int) + 1) = (i : Int) + 1 := by rw [IntKind.wrap_i64]; omega
            obtain ⟨z1, z2, z3⟩ := HROW.out W1 hb1
            by_cases hip : i < p
            · have hipi : (i : Int) < (p : Int) := by omega
              have hi0 : (0 : Int) ≤ (i : Int) := by omega
              have zi := z3 i hip
              have hxM := Pl.it_lt HPER.out.lt i HR.out
              obtain ⟨x, hxe⟩ : ∃ x, x = Pl.it f i r := ⟨_, rfl⟩
              rw [← hxe] at zi hxM
              have hmx : m x = r := by
                have := (HOR.out.iff r x HR.out hxM).2 ⟨i, hxe.symm⟩
                rw [← this, HMR.out]
              have hrx : r ≤ x := by have := HOR.out.norm.le x hxM; omega
              have hnx : Co.num m x = j := by
                unfold Co.num
                rw [hmx]
                exact HNU.out
              have hbw1 : Below W.heap.size W W1 := HB.out.trans (hb1.mono HB.out.size)
              obtain ⟨bo, oo, rfl, zl⟩ := HLFC.out W1 hbw1 x hxM
              rw [hnx] at zl
              have znx := HNXC.out W1 hbw1 x hxM
              have hxt := Cs.xor_twin x (by omega)
              have htl : Cs.twin x < M := by
                have := Cs.twin_lt (i := x) (m := M / 2) (by omega)
                omega
              obtain ⟨t, ht⟩ : ∃ t, t = Cs.twin x := ⟨_, rfl⟩
              rw [← ht] at znx hxt htl
              obtain ⟨u, hu⟩ : ∃ u, u = (i + 1) % p := ⟨_, rfl⟩
              have hul : u < p := by rw [hu]; exact Nat.mod_lt _ hpos
              have zu := z3 u hul
              have hfu : Pl.it f u r = f x := by
                rw [hu, ← HLP.out.mod (i + 1), Pl.it_succ, hxe]
              rw [hfu] at zu
              obtain ⟨y, hy⟩ : ∃ y, y = f x := ⟨_, rfl⟩
              rw [← hy] at zu znx
              have tm : ((i : Int) + 1).tmod (p : Int) = (u : Int) := by
                have e1 : (i : Int) + 1 = ((i + 1 : Nat) : Int) := by omega
                rw [Int.tmod_eq_emod_of_nonneg (by omega), e1, hu]
                exact (Int.natCast_emod (i + 1) p).symm
              have a2 : ¬ (x : Int) < 0 := by omega
              have a3 : ¬ (x : Int) < (r : Int) := by omega
              have a4 : ¬ (x : Int) ≥ (M : Int) := by omega
              have a4' : ¬ (M : Int) ≤ (x : Int) := by omega
              have a7 : ¬ M ≤ x := by omega
              have a8 : ¬ x < r := by omega
              have a9 : decide ((x : Int) < 0) = false := by simp
              have a5 : ((j : Int) != (j : Int)) = false := by simp
              have a6 : ((y : Int) != (y : Int)) = false := by simp
              have x0 : (0 : Int) ≤ (x : Int) := by omega
              have x1 : (x : Int) < (M : Int) := by omega
              have t0' : (0 : Int) ≤ (t : Int) := by omega
              have t1' : (t : Int) < (M : Int) := by omega
              have u0 : (0 : Int) ≤ (u : Int) := by omega
              have u1 : (u : Int) < (p : Int) := by omega
              have pne : ((p : Int) == 0) = false := hpz
              have pne2 : ¬ (p : Int) = 0 := by omega
              have htt := HT0.out
              have hts := HTS.out
              have htn := HT1.out
              have wn : IntKind.i64.wrap (((Fa.tot m M j + i : Nat) : Int) + 1) = ((Fa.tot m M j + (i + 1) : Nat) : Int) := by rw [IntKind.wrap_i64]; omega
              obtain ⟨q, hq⟩ : ∃ q, q = Fa.tot m M j + i := ⟨_, rfl⟩
              obtain ⟨qs, hqs⟩ : ∃ qs, qs = Fa.tot m M j + (i + 1) := ⟨_, rfl⟩
              rw [← hq, ← hqs] at wn
              rw [← hq]
              have HQS := Nu.hid hqs
              by_cases hi1 : i = 0
              · have b1 : ¬ (i : Int) > 0 := by omega
                have b2 : ¬ (0 : Int) < (i : Int) := by omega
                have b4 : ¬ 0 < i := by omega
                clear hb1 hbw1 hmx hnx hxe ht hu hfu hy hq hqs htt hts htn z3 hrx hxM htl hul hi1
                have hne := LW.any W1
                have d1 : ∀ D : LW W1, D.val.cell? ⟨gf, j, none⟩ = some (.slice (some ⟨bl, 0, none⟩) p c) := fun D => (D.h.cell (p := ⟨gf, j, none⟩) (block_lt_of_cell z1)).trans z1
                have d2 : ∀ D : LW W1, D.val.cell? ⟨bl, 0, none⟩ = some (.int .i64 (r : Int)) := fun D => (D.h.cell (p := ⟨bl, 0, none⟩) (block_lt_of_cell z2)).trans z2
                have d3 : ∀ D : LW W1, D.val.cell? ⟨bl, u, none⟩ = some (.int .i64 (y : Int)) := fun D => (D.h.cell (p := ⟨bl, u, none⟩) (block_lt_of_cell zu)).trans zu
                have d4 : ∀ D : LW W1, D.val.cell? ⟨bo, oo + x, none⟩ = some (.int .i64 (j : Int)) := fun D => (D.h.cell (p := ⟨bo, oo + x, none⟩) (block_lt_of_cell zl)).trans zl
                have d5 : ∀ D : LW W1, D.val.cell? ⟨gx, t, none⟩ = some (.int .i64 (y : Int)) := fun D => (D.h.cell (p := ⟨gx, t, none⟩) (block_lt_of_cell znx)).trans znx
                clear z2 zu zl znx
                go_wp2_with fail
                refine wp_region_lw (by kernel_rfl) (by kernel_rfl) ?_
                repeat (go_big_quiet_step (fail))
                refine wpQuiet_nil ?_
                rintro _ ⟨E, rfl⟩
                have HBE1 := Nu.hid (HB1.out.trans (E.h.mono HB1.out.size))
                obtain ⟨WE, hWE⟩ : ∃ WE, WE = E.val := ⟨_, rfl⟩
                rw [← hWE] at HBE1 ⊢
                clear d1 d2 d3 d4 d5 hne hWE z1 zi
                go_wp2
                go_roundw
                case rel => exact ⟨i + 1, by omega, by go_num, by rw [← HQS.out], HBE1.out⟩
                case measure => simp [intOf]; omega
              · have b1 : (i : Int) > 0 := by omega
                have b2 : (0 : Int) < (i : Int) := by omega
                have b4 : 0 < i := by omega
                have hxr : x ≠ r := by
                  rw [hxe]
                  exact HLP.out.first i (by omega) hip
                have b3 : ((x : Int) == (r : Int)) = false := by
                  have : ¬ (x : Int) = (r : Int) := by omega
                  simpa using this
                clear hb1 hbw1 hmx hnx hxe ht hu hfu hy hq hqs htt hts htn z3 hrx hxM htl hul hi1 hxr
                have hne := LW.any W1
                have d1 : ∀ D : LW W1, D.val.cell? ⟨gf, j, none⟩ = some (.slice (some ⟨bl, 0, none⟩) p c) := fun D => (D.h.cell (p := ⟨gf, j, none⟩) (block_lt_of_cell z1)).trans z1
                have d2 : ∀ D : LW W1, D.val.cell? ⟨bl, 0, none⟩ = some (.int .i64 (r : Int)) := fun D => (D.h.cell (p := ⟨bl, 0, none⟩) (block_lt_of_cell z2)).trans z2
                have d3 : ∀ D : LW W1, D.val.cell? ⟨bl, u, none⟩ = some (.int .i64 (y : Int)) := fun D => (D.h.cell (p := ⟨bl, u, none⟩) (block_lt_of_cell zu)).trans zu
                have d4 : ∀ D : LW W1, D.val.cell? ⟨bo, oo + x, none⟩ = some (.int .i64 (j : Int)) := fun D => (D.h.cell (p := ⟨bo, oo + x, none⟩) (block_lt_of_cell zl)).trans zl
                have d5 : ∀ D : LW W1, D.val.cell? ⟨gx, t, none⟩ = some (.int .i64 (y : Int)) := fun D => (D.h.cell (p := ⟨gx, t, none⟩) (block_lt_of_cell znx)).trans znx
                clear z2 zu zl znx
                go_wp2_with fail
                refine wp_region_lw (by kernel_rfl) (by kernel_rfl) ?_
                repeat (go_big_quiet_step (fail))
                refine wpQuiet_nil ?_
                rintro _ ⟨E, rfl⟩
                have HBE1 := Nu.hid (HB1.out.trans (E.h.mono HB1.out.size))
                obtain ⟨WE, hWE⟩ : ∃ WE, WE = E.val := ⟨_, rfl⟩
                rw [← hWE] at HBE1 ⊢
                clear d1 d2 d3 d4 d5 hne hWE z1 zi
                go_wp2
                go_roundw
                case rel => exact ⟨i + 1, by omega, by go_num, by rw [← HQS.out], HBE1.out⟩
                case measure => simp [intOf]; omega
            · have hd : ¬ (i : Int) < (p : Int) := by omega
              have hie : i = p := by omega
              have HTE : Hid (Fa.tot m M j + i = Fa.tot m M (j + 1)) := by rw [HTS.out, hie]; exact Nu.hid rfl
              rw [HTE.out]
              have HBZ := Nu.hid (HB.out.trans (hb1.mono HB.out.size))
              clear hb1 z2 z3 hie
              go_wp2
              go_roundw
              case rel => exact ⟨j + 1, by omega, by go_num, rfl, HBZ.out⟩
              case measure => simp [intOf]; omega
        · have c1 : (j : Int) > 0 := by omega
          have c2 : (0 : Int) < (j : Int) := by omega
          have c4 : 0 < j := by omega
          have c5 : ∀ r2 : Nat, r2 < r → ¬ r ≤ r2 := fun r2 h => by omega
          obtain ⟨jp, hjp⟩ : ∃ jp, jp + 1 = j := ⟨j - 1, by omega⟩
          obtain ⟨r2, p2, gf2, bl2, cc2, hr2, hmr2, hnum2, hlp2, e2, hcr2, hce2⟩ := HFACE.out W0 hb jp (by omega)
          cases e2
          have hc2 := hce2 0 hlp2.pos
          have hit2 : Pl.it f 0 r2 = r2 := rfl
          rw [hit2] at hc2
          have hlt2 : r2 < r := Fa.lead_lt (m := m) (by unfold Co.fix; simpa using hmr) (by omega)
          have c3 : ¬ (r : Int) ≤ (r2 : Int) := by omega
          have c6 : ¬ r ≤ r2 := by omega
          clear c5
          have wj : IntKind.i64.wrap ((j : Int) - 1) = (jp : Int) := by rw [IntKind.wrap_i64]; omega
          have wj2 : (j : Int) - 1 = (jp : Int) := by omega
          have jp0 : (0 : Int) ≤ (jp : Int) := by omega
          have jp1 : (jp : Int) < (K : Int) := by omega
          have p20 : (0 : Int) < (p2 : Int) := by have := hlp2.pos; omega
          clear hb hr hmr hnum hlp hce hit0 hj1 hdr hr2 hmr2 hnum2 hlp2 hce2 hit2 hlt2 hjp
          have dcr : ∀ D : LW W0, D.val.cell? ⟨gf, j, none⟩ = some (.slice (some ⟨bl, 0, none⟩) p c) := fun D => (HROW.out D.val D.h).1
          have dc0 : ∀ D : LW W0, D.val.cell? ⟨bl, 0, none⟩ = some (.int .i64 (r : Int)) := fun D => (HROW.out D.val D.h).2.1
          have ecr : ∀ D : LW W0, D.val.cell? ⟨gf, jp, none⟩ = some (.slice (some ⟨bl2, 0, none⟩) p2 cc2) := fun D => (D.h.cell (p := ⟨gf, jp, none⟩) (block_lt_of_cell hcr2)).trans hcr2
          have ec0 : ∀ D : LW W0, D.val.cell? ⟨bl2, 0, none⟩ = some (.int .i64 (r2 : Int)) := fun D => (D.h.cell (p := ⟨bl2, 0, none⟩) (block_lt_of_cell hc2)).trans hc2
          have hne := LW.any W0
          clear hcr hc0 hcr2 hc2
          go_wp2_with fail
          refine wp_region_lw (by kernel_rfl) (by kernel_rfl) ?_
          repeat (go_big_quiet_step (fail))
          refine wpQuiet_nil ?_
          rintro _ ⟨E, rfl⟩
          have HBD := Nu.hid E.h
          obtain ⟨WE, hWE⟩ : ∃ WE, WE = E.val := ⟨_, rfl⟩
          rw [← hWE] at HBD ⊢
          clear dcr dc0 ecr ec0 hne hWE
          go_wp2
          go_loopw [11, 13] (fun c11 c13 wr => ∃ i : Nat, i ≤ p ∧ c13 = .int .i64 (i : Int) ∧ c11 = .int .i64 ((Fa.tot m M j + i : Nat) : Int) ∧ Below W0.heap.size W0 wr) (fun _ c13 _ => p - (intOf c13).toNat)
          case atStart => exact ⟨0, Nat.zero_le _, rfl, rfl, HBD.out⟩
          case round =>
            obtain ⟨i, hi, rfl, rfl, hb1⟩ := hrel
            obtain ⟨W1, rfl⟩ : ∃ W1, W1 = wr := ⟨_, rfl⟩
            have HB1 := Nu.hid hb1
            have hwi : IntKind.i64.wrap ((i : Int) + 1) = (i : Int) + 1 := by rw [IntKind.wrap_i64]; omega
            obtain ⟨z1, z2, z3⟩ := HROW.out W1 hb1
            by_cases hip : i < p
            · have hipi : (i : Int) < (p : Int) := by omega
              have hi0 : (0 : Int) ≤ (i : Int) := by omega
              have zi := z3 i hip
              have hxM := Pl.it_lt HPER.out.lt i HR.out
              obtain ⟨x, hxe⟩ : ∃ x, x = Pl.it f i r := ⟨_, rfl⟩
              rw [← hxe] at zi hxM
              have hmx : m x = r := by
                have := (HOR.out.iff r x HR.out hxM).2 ⟨i, hxe.symm⟩
                rw [← this, HMR.out]
              have hrx : r ≤ x := by have := HOR.out.norm.le x hxM; omega
              have hnx : Co.num m x = j := by
                unfold Co.num
                rw [hmx]
                exact HNU.out
              have hbw1 : Below W.heap.size W W1 := HB.out.trans (hb1.mono HB.out.size)
              obtain ⟨bo, oo, rfl, zl⟩ := HLFC.out W1 hbw1 x hxM
              rw [hnx] at zl
              have znx := HNXC.out W1 hbw1 x hxM
              have hxt := Cs.xor_twin x (by omega)
              have htl : Cs.twin x < M := by
                have := Cs.twin_lt (i := x) (m := M / 2) (by omega)
                omega
              obtain ⟨t, ht⟩ : ∃ t, t = Cs.twin x := ⟨_, rfl⟩
              rw [← ht] at znx hxt htl
              obtain ⟨u, hu⟩ : ∃ u, u = (i + 1) % p := ⟨_, rfl⟩
              have hul : u < p := by rw [hu]; exact Nat.mod_lt _ hpos
              have zu := z3 u hul
              have hfu : Pl.it f u r = f x := by
                rw [hu, ← HLP.out.mod (i + 1), Pl.it_succ, hxe]
              rw [hfu] at zu
              obtain ⟨y, hy⟩ : ∃ y, y = f x := ⟨_, rfl⟩
              rw [← hy] at zu znx
              have tm : ((i : Int) + 1).tmod (p : Int) = (u : Int) := by
                have e1 : (i : Int) + 1 = ((i + 1 : Nat) : Int) := by omega
                rw [Int.tmod_eq_emod_of_nonneg (by omega), e1, hu]
                exact (Int.natCast_emod (i + 1) p).symm
              have a2 : ¬ (x : Int) < 0 := by omega
              have a3 : ¬ (x : Int) < (r : Int) := by omega
              have a4 : ¬ (x : Int) ≥ (M : Int) := by omega
              have a4' : ¬ (M : Int) ≤ (x : Int) := by omega
              have a7 : ¬ M ≤ x := by omega
              have a8 : ¬ x < r := by omega
              have a9 : decide ((x : Int) < 0) = false := by simp
              have a5 : ((j : Int) != (j : Int)) = false := by simp
              have a6 : ((y : Int) != (y : Int)) = false := by simp
              have x0 : (0 : Int) ≤ (x : Int) := by omega
              have x1 : (x : Int) < (M : Int) := by omega
              have t0' : (0 : Int) ≤ (t : Int) := by omega
              have t1' : (t : Int) < (M : Int) := by omega
              have u0 : (0 : Int) ≤ (u : Int) := by omega
              have u1 : (u : Int) < (p : Int) := by omega
              have pne : ((p : Int) == 0) = false := hpz
              have pne2 : ¬ (p : Int) = 0 := by omega
              have htt := HT0.out
              have hts := HTS.out
              have htn := HT1.out
              have wn : IntKind.i64.wrap (((Fa.tot m M j + i : Nat) : Int) + 1) = ((Fa.tot m M j + (i + 1) : Nat) : Int) := by rw [IntKind.wrap_i64]; omega
              obtain ⟨q, hq⟩ : ∃ q, q = Fa.tot m M j + i := ⟨_, rfl⟩
              obtain ⟨qs, hqs⟩ : ∃ qs, qs = Fa.tot m M j + (i + 1) := ⟨_, rfl⟩
              rw [← hq, ← hqs] at wn
              rw [← hq]
              have HQS := Nu.hid hqs
              by_cases hi1 : i = 0
              · have b1 : ¬ (i : Int) > 0 := by omega
                have b2 : ¬ (0 : Int) < (i : Int) := by omega
                have b4 : ¬ 0 < i := by omega
                clear hb1 hbw1 hmx hnx hxe ht hu hfu hy hq hqs htt hts htn z3 hrx hxM htl hul hi1
                have hne := LW.any W1
                have d1 : ∀ D : LW W1, D.val.cell? ⟨gf, j, none⟩ = some (.slice (some ⟨bl, 0, none⟩) p c) := fun D => (D.h.cell (p := ⟨gf, j, none⟩) (block_lt_of_cell z1)).trans z1
                have d2 : ∀ D : LW W1, D.val.cell? ⟨bl, 0, none⟩ = some (.int .i64 (r : Int)) := fun D => (D.h.cell (p := ⟨bl, 0, none⟩) (block_lt_of_cell z2)).trans z2
                have d3 : ∀ D : LW W1, D.val.cell? ⟨bl, u, none⟩ = some (.int .i64 (y : Int)) := fun D => (D.h.cell (p := ⟨bl, u, none⟩) (block_lt_of_cell zu)).trans zu
                have d4 : ∀ D : LW W1, D.val.cell? ⟨bo, oo + x, none⟩ = some (.int .i64 (j : Int)) := fun D => (D.h.cell (p := ⟨bo, oo + x, none⟩) (block_lt_of_cell zl)).trans zl
                have d5 : ∀ D : LW W1, D.val.cell? ⟨gx, t, none⟩ = some (.int .i64 (y : Int)) := fun D => (D.h.cell (p := ⟨gx, t, none⟩) (block_lt_of_cell znx)).trans znx
                clear z2 zu zl znx
                go_wp2_with fail
                refine wp_region_lw (by kernel_rfl) (by kernel_rfl) ?_
                repeat (go_big_quiet_step (fail))
                refine wpQuiet_nil ?_
                rintro _ ⟨E, rfl⟩
                have HBE1 := Nu.hid (HB1.out.trans (E.h.mono HB1.out.size))
                obtain ⟨WE, hWE⟩ : ∃ WE, WE = E.val := ⟨_, rfl⟩
                rw [← hWE] at HBE1 ⊢
                clear d1 d2 d3 d4 d5 hne hWE z1 zi
                go_wp2
                go_roundw
                case rel => exact ⟨i + 1, by omega, by go_num, by rw [← HQS.out], HBE1.out⟩
                case measure => simp [intOf]; omega
              · have b1 : (i : Int) > 0 := by omega
                have b2 : (0 : Int) < (i : Int) := by omega
                have b4 : 0 < i := by omega
                have hxr : x ≠ r := by
                  rw [hxe]
                  exact HLP.out.first i (by omega) hip
                have b3 : ((x : Int) == (r : Int)) = false := by
                  have : ¬ (x : Int) = (r : Int) := by omega
                  simpa using this
                clear hb1 hbw1 hmx hnx hxe ht hu hfu hy hq hqs htt hts htn z3 hrx hxM htl hul hi1 hxr
                have hne := LW.any W1
                have d1 : ∀ D : LW W1, D.val.cell? ⟨gf, j, none⟩ = some (.slice (some ⟨bl, 0, none⟩) p c) := fun D => (D.h.cell (p := ⟨gf, j, none⟩) (block_lt_of_cell z1)).trans z1
                have d2 : ∀ D : LW W1, D.val.cell? ⟨bl, 0, none⟩ = some (.int .i64 (r : Int)) := fun D => (D.h.cell (p := ⟨bl, 0, none⟩) (block_lt_of_cell z2)).trans z2
                have d3 : ∀ D : LW W1, D.val.cell? ⟨bl, u, none⟩ = some (.int .i64 (y : Int)) := fun D => (D.h.cell (p := ⟨bl, u, none⟩) (block_lt_of_cell zu)).trans zu
                have d4 : ∀ D : LW W1, D.val.cell? ⟨bo, oo + x, none⟩ = some (.int .i64 (j : Int)) := fun D => (D.h.cell (p := ⟨bo, oo + x, none⟩) (block_lt_of_cell zl)).trans zl
                have d5 : ∀ D : LW W1, D.val.cell? ⟨gx, t, none⟩ = some (.int .i64 (y : Int)) := fun D => (D.h.cell (p := ⟨gx, t, none⟩) (block_lt_of_cell znx)).trans znx
                clear z2 zu zl znx
                go_wp2_with fail
                refine wp_region_lw (by kernel_rfl) (by kernel_rfl) ?_
                repeat (go_big_quiet_step (fail))
                refine wpQuiet_nil ?_
                rintro _ ⟨E, rfl⟩
                have HBE1 := Nu.hid (HB1.out.trans (E.h.mono HB1.out.size))
                obtain ⟨WE, hWE⟩ : ∃ WE, WE = E.val := ⟨_, rfl⟩
                rw [← hWE] at HBE1 ⊢
                clear d1 d2 d3 d4 d5 hne hWE z1 zi
                go_wp2
                go_roundw
                case rel => exact ⟨i + 1, by omega, by go_num, by rw [← HQS.out], HBE1.out⟩
                case measure => simp [intOf]; omega
            · have hd : ¬ (i : Int) < (p : Int) := by omega
              have hie : i = p := by omega
              have HTE : Hid (Fa.tot m M j + i = Fa.tot m M (j + 1)) := by rw [HTS.out, hie]; exact Nu.hid rfl
              rw [HTE.out]
              have HBZ := Nu.hid (HB.out.trans (hb1.mono HB.out.size))
              clear hb1 z2 z3 hie
              go_wp2
              go_roundw
              case rel => exact ⟨j + 1, by omega, by go_num, rfl, HBZ.out⟩
              case measure => simp [intOf]; omega
      · have hd : ¬ (j : Int) < (K : Int) := by omega
        have hje : j = K := by omega
        have hte : Fa.tot m M j = M := by rw [hje, HKE.out]; exact Fa.tot_all HOR.out
        rw [hte]
        have tM2 : ((M : Int) == (M : Int)) = true := by simp
        have HBE := Nu.hid (HBW.out.trans (hb.mono HBW.out.size))
        clear hb hje hte
        go_wp2
        go_ret
        exact ⟨rfl, HBE.out⟩
  · have t0 : (C != 0) = true := by simpa using h0
    rw [Fa.orN_bad h0, Fa.orN_bad h0]
    have HNX2 : Hid (Calls Try.prog 22 #[.agg #[.int .i64 n, .slice coD es.length ccD], .slice yoD ls.length ycD] W9 fun e w' => e = .returned (.tuple #[.slice none 0 0, .int .i64 C]) ∧ Below W9.heap.size W9 w') := by
      refine HNX.out.mono ?_
      rw [HC.out] at h0 ⊢
      rintro e w' ⟨hb, ⟨-, h1⟩ | ⟨h1, -⟩⟩
      · exact ⟨h1, hb⟩
      · exact absurd h1 h0
    clear h0 HNX
    go_wp2_with (go_at_call 22; refine HNX2.out.mono ?_; rintro e WZ ⟨rfl, hb⟩; refine Hid.out ?_)
    refine Nu.hid ?_
    have HBE := Nu.hid (HG9.out.later hb).gr.low
    clear hb
    go_wp2
    go_ret
    exact ⟨rfl, HBE.out⟩

set_option maxRecDepth 100000 in
/-- What the walk gives, for every argument and every world. -/
theorem contract (H : Type) (enc : TypeId × Value → H) (W : World) (base : Nat) (args : Array Value) (ds gs : List (DataW H)) (before : List MemPlace)
    (hval : ∀ (j : Nat) t v, Try.f4.params[j]? = some t → args[j]? = some v → Value.okWide Try.prog W .any base t v)
    (hW : DataW.Whole enc Try.prog Try.f4.params.toList Rows.facesWalkSpec.vars false W args.toList ds gs before)
    (hsz : (DataW.weightsEach Try.prog (Try.f4.params.toList ++ (OpenSpec.ofChange Rows.facesWalkSpec).bare.plain.varTypes Try.prog) (ds ++ gs)).all (· ≤ reachBytes) = true)
    :
    Calls Try.prog 4 args W fun e W' => ∃ v, e = .returned v ∧ Rows.facesWalkSpec.post enc Try.prog Try.f4 false true false false W args v W' := by
  have hW' := hW
  obtain ⟨p, q, hA0, hV, rfl, hfz, hnd⟩ := hW
  have hA : DataW.TrodAll enc Try.prog W 0 (fun _ => true) true Try.f4.params.toList args.toList ds p := hA0
  rw [Try.params4] at hA hval hsz
  obtain ⟨v0, vs0, d0, ds0, p0, q0, hargs, rfl, rfl, h0, r0⟩ := trodAll_cons hA
  obtain ⟨v1, vs1, d1, ds1, p1, q1, rfl, rfl, rfl, h1, r1⟩ := trodAll_cons r0
  obtain ⟨rfl, rfl, rfl⟩ := trodAll_nil r1
  obtain rfl : args = #[v0, v1] := by cases args; simp_all
  obtain ⟨rfl, rfl⟩ := trodVars_none hV
  have k0 := h0
  have lt0 : ∀ x ∈ p0, x.block < W.heap.size := by obtain ⟨m, hm⟩ := k0; exact DataW.trod_lt m _ _ _ hm
  obtain ⟨n0, a0, cap0, q0, rfl, x0, w0, u0⟩ := graph_of_trod (j := 0) (hval 0 24 v0 rfl rfl) h0 hsz rfl rfl
  obtain ⟨a1, len1, cap1, rfl⟩ := okWide_slice Try.underlying26 (hval 1 26 v1 rfl rfl)
  have k1 := h1
  have lt1 : ∀ x ∈ p1, x.block < W.heap.size := by obtain ⟨m, hm⟩ := k1; exact DataW.trod_lt m _ _ _ hm
  obtain ⟨q1, w1⟩ := rows_of_trod (j := 1) Try.underlying26 h1 hsz rfl rfl
  have l1 := w1.hlen
  subst l1
  clear hA0
  refine (walk n0 a0 cap0 q0 a1 cap1 q1 W x0 w0 u0 w1).mono fun e W' ⟨he, bel⟩ => ?_
  subst he
  exact ⟨_, rfl, _, _, _, [], _, [], hW', trodAll_mk1 (shut_bool Try.underlying4 _), (trodAll_cons_mk (Below.trod laidOut (by kernel_rfl) (of_decide_eq_true (by kernel_rfl)) k0 bel lt0) (trodAll_cons_mk (Below.trod laidOut (by kernel_rfl) (of_decide_eq_true (by kernel_rfl)) k1 bel lt1) trodAll_mk0)), rfl, bel.frame _, fun h => by cases h⟩

theorem laid_met (os : Os) : laidMet Try.prog Rows.facesWalkRow.laid ((settled os).forCall (fun _ _ => 0) ⟨#[], #[.agg #[.int .i64 0, .slice none 0 0], .slice none 0 0], []⟩).memory :=
  laidMet_of_run' 100 (by kernel_rfl) (by kernel_rfl)
theorem reads (os : Os) {H : Type} (enc : TypeId × Value → H) : ∃ places, DataW.whole enc Try.prog ((settled os).forCall (fun _ _ => 0) ⟨#[], #[.agg #[.int .i64 0, .slice none 0 0], .slice none 0 0], []⟩).memory Try.f4.params.toList Rows.facesWalkSpec.vars false (#[.agg #[.int .i64 0, .slice none 0 0], .slice none 0 0] : Array Value).toList 8 = some ([.agg [.lit (.int .i64 0), .nil], .nil], [], places) :=
  ⟨[], by kernel_rfl⟩

set_option maxRecDepth 100000 in
theorem lifted (os : Os) (started : os.Started) (H : Type) (enc : TypeId × Value → H) (F : Stop.Interp) :
    ReturnsInHanded {} Try.checked os 4 .any ((OpenSpec.ofChange Rows.facesWalkSpec).preRow enc Try.prog Try.f4 Rows.facesWalkRow.domain false Rows.facesWalkRow.laid) (((OpenSpec.ofChange Rows.facesWalkSpec).at F).post enc Try.prog Try.f4 false true false false) := by
  obtain ⟨places, hx⟩ := reads os enc
  refine returnsInHanded_of_row (C := Try.checked) (s := (OpenSpec.ofChange Rows.facesWalkSpec)) own started (by kernel_rfl) Try.func4
    (witness_row_at (enc := enc) (C := Try.checked) false (settled os) #[.agg #[.int .i64 0, .slice none 0 0], .slice none 0 0] rfl (by kernel_rfl) (by kernel_rfl) (by kernel_rfl)
      (OpenSpec.preRow_of_cond 8 hx (by kernel_rfl) (fun k hk => by cases hk) (by kernel_rfl) (laid_met os))) ?_
  intro W base args ds gs before hval hW _ _ hsz _ _ _
  exact contract H enc W base args ds gs before hval hW hsz 

theorem said : Rows.FacesWalkSaid :=
  OpenClaim.holds_of_cond 4 Try.f4 rfl rfl rfl rfl rfl rfl rfl ⟨rfl, rfl, rfl, rfl, rfl⟩ rfl rfl rfl rfl rfl (by kernel_rfl) Try.func4 (by kernel_rfl)
    (of_decide_eq_true (by kernel_rfl)) (by unfold Func.isWrapper; first | (rw [if_pos (by decide +kernel)]; kernel_rfl) | (rw [if_neg (by decide +kernel)]; exact ⟨rfl, rfl⟩))
    (fun os started H enc _ F => by rw [OpenClaim.pre_eq_preRow]; exact lifted os started H enc F)

end lawFW

theorem facesWalk_holds : Rows.FacesWalkSaid := lawFW.said

#print axioms facesWalk_holds
end Go.Proofs.Ytfkmldopfhdbkaa
