/-
  Layer 15, the program: Recognise.
-/
import Derived.Test.YtdhaaodalchpkaaMgE
namespace Go.Proofs.Ytdhaaodalchpkaa
open Go.RowKit Go.Sort Go.Maps


namespace Ku
/-- Two boxes of three cells, one written over. -/
theorem two_boxes {w : World} {k j : Nat} {t : TypeId} {a0 a1 a2 b0 b1 b2 : Value} (hne : j ≠ k) (hk : w.heap[k]? = some (.cells #[a0, a1, a2] t (0, 0))) (hj : w.heap[j]? = some (.cells #[b0, b1, b2] t (0, 0))) (x y z : Value) :
    (w.cell? ⟨k, 0, none⟩ = some a0 ∧ w.cell? ⟨k, 1, none⟩ = some a1 ∧ w.cell? ⟨k, 2, none⟩ = some a2 ∧ w.frozen? ⟨k, 0, none⟩ = false ∧ w.frozen? ⟨k, 1, none⟩ = false ∧ w.frozen? ⟨k, 2, none⟩ = false) ∧
    (∀ X, X = ((w.setCell ⟨k, 0, none⟩ x).setCell ⟨k, 1, none⟩ y).setCell ⟨k, 2, none⟩ z → (X.cell? ⟨k, 0, none⟩ = some x ∧ X.cell? ⟨k, 1, none⟩ = some y ∧ X.cell? ⟨k, 2, none⟩ = some z) ∧
      (X.cell? ⟨j, 0, none⟩ = some b0 ∧ X.cell? ⟨j, 1, none⟩ = some b1 ∧ X.cell? ⟨j, 2, none⟩ = some b2 ∧ X.frozen? ⟨j, 0, none⟩ = false ∧ X.frozen? ⟨j, 1, none⟩ = false ∧ X.frozen? ⟨j, 2, none⟩ = false)) := by
  obtain ⟨c0, c1, c2, cf⟩ := cells3_15 hk
  refine ⟨⟨c0, c1, c2, cf 0, cf 1, cf 2⟩, ?_⟩
  rintro X rfl
  obtain ⟨d0, d1, d2, df⟩ := cells3_15 ((set3_far (u := w) (k8 := k) x y z j hne).trans hj)
  exact ⟨set_three15 c0 c1 c2 x y z, d0, d1, d2, df 0, df 1, df 2⟩
end Ku

set_option maxRecDepth 100000 in
set_option maxHeartbeats 8000000 in
theorem precognise_any (n : Int) (ao : Option Addr) (cap : Nat) (es : List (Int × Int)) (w : World) (he : EdgesAt w ao es) (hl : es.length ≤ 4611686018427387904) :
    Calls Try.prog 13 #[.agg #[.int .i64 n, .slice ao es.length cap]] w (Ku.PRecP n es w) := by
  obtain ⟨W1, hW1⟩ : ∃ W1, W1 = w.alloc (.cells #[.int .i64 n, .slice ao es.length cap] 24) := ⟨_, rfl⟩
  obtain ⟨W, hW⟩ : ∃ W, W = W1.alloc (.cells #[.int .i64 0, .slice none 0 0, .slice none 0 0] 38) := ⟨_, rfl⟩
  have hsz : W1.heap.size = w.heap.size + 1 := by rw [hW1]; simp
  have g1 : W1.heap[w.heap.size]? = some (.cells #[.int .i64 n, .slice ao es.length cap] 24 (0, 0)) := by rw [hW1]; exact heap_alloc_new w _
  have hB1 : Below w.heap.size w W1 := by rw [hW1]; exact (Below.refl _ _).alloc (Nat.le_refl _) _
  have hB2 : Below W1.heap.size W1 W := by rw [hW]; exact (Below.refl _ _).alloc (Nat.le_refl _) _
  have hBW : Below w.heap.size w W := hB1.trans (hB2.mono hB1.size)
  have g2 : W.heap[w.heap.size + 1]? = some (.cells #[.int .i64 0, .slice none 0 0, .slice none 0 0] 38 (0, 0)) := by rw [hW, ← hsz]; exact heap_alloc_new W1 _
  have g1' : W.heap[w.heap.size]? = some (.cells #[.int .i64 n, .slice ao es.length cap] 24 (0, 0)) := by rw [hB2.block _ (by omega)]; exact g1
  have hWs : w.heap.size + 1 < W.heap.size := lt_of_block g2
  have HNEW := Nu.hid (cnew_any n ao cap es W (he.later hBW) hl)
  unfold graphVal at HNEW
  have HG2 := Nu.hid g2
  have HBW := Nu.hid hBW
  have HW : Hid (W = (w.alloc (.cells #[.int .i64 n, .slice ao es.length cap] 24)).alloc (.cells #[.int .i64 0, .slice none 0 0, .slice none 0 0] 38)) := by rw [hW, hW1]; exact Nu.hid rfl
  obtain ⟨q0, q1, -⟩ := pair_cells g1'
  rw [HW.out] at q0 q1
  clear he hB1 hB2 hBW g1 g2 g1' hW hW1 hsz
  go_enter Try.func13, Try.ntmps13
  go_wp2_with (go_at_call 24; rw [← HW.out]; refine HNEW.out.mono ?_; refine Hid.out ?_)
  refine Nu.hid ?_
  rintro e w1 ⟨hcase, hb1⟩
  have HB1 := Nu.hid (HBW.out.trans (hb1.mono HBW.out.size))
  have hG1 : w1.heap[w.heap.size + 1]? = some (.cells #[.int .i64 0, .slice none 0 0, .slice none 0 0] 38 (0, 0)) := (hb1.block _ (by omega)).trans HG2.out
  have HG1 := Nu.hid hG1
  have hs1 := hb1.size
  clear q0 q1
  rcases hcase with ⟨m, p, rfl, hval, rfl, hadj⟩ | ⟨hv, rfl⟩
  · have HIA : Hid (∀ U : World, Below w1.heap.size w1 U → IsAdj U (.pointer (some ⟨p, 0, none⟩)) m es) := fun U hU => IsAdj.later (.inr ⟨_, p, rfl, hval, hadj⟩) hU
    have HV := Nu.hid hval
    have HBR := Nu.hid (vbranching_any p m es w1 (HIA.out w1 (Below.refl _ _)) hval)
    have hm : m ≤ 1048576 := by have := hval.hi; omega
    clear hadj hb1 hval hG1
    go_wp2_with (go_at_call 28; refine HBR.out.mono ?_; refine Hid.out ?_)
    refine Nu.hid ?_
    rintro e w2 ⟨v, rfl, ho, hb2⟩
    obtain ⟨la, lc, hve, hli, hlb⟩ := ho.form
    obtain ⟨q, hq⟩ : ∃ q, (Ku.ZL (Ku.brs es m)).length = q := ⟨_, rfl⟩
    rw [hq] at hve
    subst hve
    have hroom : q ≤ lc ∧ lc ≤ 9223372036854775807 := by
      rcases ho.2 with ⟨e, h0⟩ | ⟨g, cap, cur, e, _, _, h1, h2, _⟩
      · cases e
        exact ⟨Nat.le_refl _, by omega⟩
      · cases e
        rw [← hq]
        exact ⟨h1, by unfold maxLen at h2; omega⟩
    have hqm : q ≤ 1048576 := by rw [← hq, Ku.ZL_length]; have := Ku.brs_length es m; omega
    have HQN : Hid ((Ku.brs es m).length = q) := by rw [← Ku.ZL_length]; exact Nu.hid hq
    have hs2 := hb2.size
    obtain ⟨V, hV⟩ : ∃ V, V = w2.alloc (.cells #[.int .i64 0, .slice none 0 0, .slice none 0 0] 38) := ⟨_, rfl⟩
    have hBV : Below w2.heap.size w2 V := by rw [hV]; exact (Below.refl _ _).alloc (Nat.le_refl _) _
    have gV : V.heap[w2.heap.size]? = some (.cells #[.int .i64 0, .slice none 0 0, .slice none 0 0] 38 (0, 0)) := by rw [hV]; exact heap_alloc_new w2 _
    have hVs : w2.heap.size < V.heap.size := lt_of_block gV
    have hb1V : Below w1.heap.size w1 V := hb2.trans (hBV.mono hb2.size)
    have gV2 : V.heap[w.heap.size + 1]? = some (.cells #[.int .i64 0, .slice none 0 0, .slice none 0 0] 38 (0, 0)) := (hb1V.block _ (by omega)).trans HG1.out
    have HVE := Nu.hid hV
    have HGV := Nu.hid gV
    have HGV2 := Nu.hid gV2
    have HB1V := Nu.hid hb1V
    have HBWV := Nu.hid (HB1.out.trans (hb1V.mono HB1.out.size))
    have HOV : Hid (∀ U : World, (∀ b, b < w2.heap.size → w1.heap.size ≤ b → U.heap[b]? = w2.heap[b]?) → OwnZ U w.heap.size (.slice la q lc) (Ku.ZL (Ku.brs es m))) := fun U hU => (ho.lower (by omega)).same fun g hg hl => hU g hl (World.ownsRow.lt ho g hg).1
    have HLI := Nu.hid (hli.later hBV)
    have HLB : Hid (∀ b, (Value.slice la q lc).ownBlock = some b → w1.heap.size ≤ b ∧ b < w2.heap.size) := fun b hb => World.ownsRow.lt ho b hb
    have HHV : Hid (∀ (d : Nat) (r : Bool), (r = true ↔ ∀ v ∈ Ku.brs es m, Ku.dg es v = d) → Calls Try.prog 29 #[.pointer (some ⟨p, 0, none⟩), .slice la q lc, .int .i64 (d : Int)] V fun e w' => e = .returned (.bool r) ∧ Below V.heap.size V w') := fun d r hr => vhave_any p m es la q lc d (Ku.brs es m) V (HIA.out V hb1V) HQN.out HLI.out (fun v hv => (Ku.mem_brs.1 hv).1) (by omega) r hr
    have HCHN : Hid (∀ U : World, Below V.heap.size V U → Calls Try.prog 25 #[.pointer (some ⟨p, 0, none⟩)] U (Ku.ChnP es HV.out U)) := fun U hU => vchains_any p m es U (HIA.out U (hb1V.trans (hU.mono hb1V.size))) HV.out
    obtain ⟨z0, z1, z2, zf⟩ := cells3_15 gV2
    obtain ⟨y0, y1, y2, yf⟩ := cells3_15 gV
    have hz0 := zf 0
    have hz1 := zf 1
    have hz2 := zf 2
    have hy0 := yf 0
    have hy1 := yf 1
    have hy2 := yf 2
    have hkn : w.heap.size + 1 ≠ w2.heap.size := by omega
    clear hli hlb ho hb2 hV hBV gV gV2 hb1V hq zf yf
    obtain ⟨R, hR⟩ : ∃ R, Ku.rows es HV.out es.length = R := ⟨_, rfl⟩
    have HRE := Nu.hid hR
    have HSM : Hid (Ku.Small R) := by rw [← hR]; exact Nu.hid (Ku.rows_small HV.out)
    have HGET : Hid (∀ U : World, Below V.heap.size V U → U.heap[w2.heap.size]? = some (.cells #[.int .i64 0, .slice none 0 0, .slice none 0 0] 38 (0, 0)) ∧ U.heap[w.heap.size + 1]? = some (.cells #[.int .i64 0, .slice none 0 0, .slice none 0 0] 38 (0, 0)) ∧ IntsAt U la (Ku.ZL (Ku.brs es m))) := fun U hU => ⟨(hU.block _ (lt_of_block HGV.out)).trans HGV.out, (hU.block _ (lt_of_block HGV2.out)).trans HGV2.out, HLI.out.later hU⟩
    have hsV := HBWV.out.size
    have HUPL : Hid ((Ku.ZL (Ku.brs es m)).Pairwise (· < ·)) := Nu.hid (Ku.ZL_up (Ku.brs_up es m))
    have HSML : Hid (∀ x ∈ Ku.ZL (Ku.brs es m), 0 ≤ x ∧ x < 1048576) := by
      refine Nu.hid fun x hx => ?_
      unfold Ku.ZL at hx
      obtain ⟨v, hv', rfl⟩ := List.mem_map.1 hx
      have := (Ku.mem_brs.1 hv').1
      omega
    have HZL : Hid ((Ku.ZL (Ku.brs es m)).length = q) := by rw [Ku.ZL_length]; exact HQN
    clear hR
    clear z0 z1 z2 y0 y1 y2 hz0 hz1 hz2 hy0 hy1 hy2
    have HNONE : Hid (¬ ((Ku.brs es m).length = 5 ∧ ∀ v ∈ Ku.brs es m, Ku.dg es v = 4) → ¬ ((Ku.brs es m).length = 6 ∧ ∀ v ∈ Ku.brs es m, Ku.dg es v = 3) → Ku.recA (Ku.rows es HV.out es.length) es m = none) := fun h1 h2 => Ku.recA_no h1 fun h => h2 ⟨h.1, h.2.1⟩
    by_cases h5 : q = 5
    · have t5 : ((q : Int) == 5) = true := by rw [h5]; rfl
      have t6 : ((q : Int) == 6) = false := by rw [h5]; rfl
      obtain ⟨r, hr⟩ := Ku.some_bool (∀ v ∈ Ku.brs es m, Ku.dg es v = 4)
      have HR4 : Hid (Calls Try.prog 29 #[.pointer (some ⟨p, 0, none⟩), .slice la q lc, .int .i64 4] V fun e w' => e = .returned (.bool r) ∧ Below V.heap.size V w') := HHV.out 4 r hr
      have HR := Nu.hid hr
      have H5 := Nu.hid h5
      clear hr h5
      cases r with
      | true =>
        have HALL := Nu.hid (HR.out.1 rfl)
        go_wp2_with (go_at_call 29; rw [← HVE.out]; refine HR4.out.mono ?_; rintro e w3 ⟨rfl, hb3⟩; refine Hid.out ?_)
        refine Nu.hid ?_
        obtain ⟨HCc⟩ : Nonempty (Hid (Calls Try.prog 25 #[.pointer (some ⟨p, 0, none⟩)] w3 (Ku.ChnP es HV.out w3))) := ⟨HCHN.out w3 hb3⟩
        have HB3 := Nu.hid hb3
        have hs3 := hb3.size
        clear hb3
        go_wp2_with (go_at_call 25; refine HCc.out.mono ?_; refine Hid.out ?_)
        refine Nu.hid ?_
        rintro e w4 ⟨cv, cs, rfl, hrz, hb4⟩
        rw [HRE.out] at hrz
        obtain ⟨ca, cc, rfl⟩ := row_shape hrz
        obtain ⟨J, hJ⟩ : ∃ J, R.length = J := ⟨_, rfl⟩
        rw [hJ] at hrz ⊢
        have HJ := Nu.hid hJ
        have HRZ := Nu.hid hrz
        have HB4 := Nu.hid (HB3.out.trans (hb4.mono HB3.out.size))
        have hs4 := hb4.size
        have HSP := Nu.hid (vspin_any ca J cc R w4 hJ (by rw [← hJ] at hrz ⊢; exact Ku.sees_rows hrz) HSM.out)
        clear hrz hb4 hJ
        go_wp2_with (go_at_call 30; refine HSP.out.mono ?_; refine Hid.out ?_)
        refine Nu.hid ?_
        rintro e w5 ⟨mb, rfl, hmb, hom, hb5⟩
        have HB5 := Nu.hid (HB4.out.trans (hb5.mono HB4.out.size))
        have hs5 := hb5.size
        have HCB : Hid (∀ b, inV cs b → w3.heap.size ≤ b ∧ b < w4.heap.size) := fun b hb => HRZ.out.within (.inr hb)
        obtain ⟨g8, g2, hli⟩ := HGET.out w5 HB5.out
        have HFV : Hid (Calls Try.prog 31 #[.agg #[.slice ca J cc, .map (some mb)], .slice la q lc] w5 (Ku.KurP w3.heap.size cs R 1 (.slice la q lc) (Ku.pout (Ku.ZL (Ku.brs es m)) q) w5)) := by
          have h5 := H5.out
          have hpo := Ku.pout_ok (L := Ku.ZL (Ku.brs es m)) (HZL.out.trans h5) HUPL.out HSML.out
          refine Nu.hid (vfive_any w3.heap.size ca J cc mb R.length cs R la q lc (Ku.ZL (Ku.brs es m)) w5 HJ.out (by omega) (HRZ.out.later hb5) HSM.out hom (fun h => ?_) HZL.out (by omega) (by omega) hroom.1 hroom.2 hli (by rw [h5]; exact hpo.1) (by rw [h5]; exact hpo.2))
          have := HCB.out mb h
          omega
        have HG8 := Nu.hid g8
        have HG2 := Nu.hid g2
        clear hom hb5 hli g8 g2
        go_wp2_with (go_at_call 31; refine HFV.out.mono ?_; refine Hid.out ?_)
        refine Nu.hid ?_
        rintro e w6 hk
        obtain ⟨v1, s1, s2, s3, u1, u2, u3, rr, rfl⟩ := hk.shape
        have HK := Nu.hid hk
        have HSAME : Hid (∀ b, b < w5.heap.size → ¬ inV cs b → w6.heap[b]? = w5.heap[b]?) := fun b h1 h2 => hk.2.block b h1 h2
        have hs6 := hk.2.size
        have HWR := Nu.hid hk.2
        clear hk
        have hg8 : w6.heap[w2.heap.size]? = some (.cells #[.int .i64 0, .slice none 0 0, .slice none 0 0] 38 (0, 0)) := (HSAME.out _ (by omega) (fun h => by have := HCB.out _ h; omega)).trans HG8.out
        have hg2 : w6.heap[w.heap.size + 1]? = some (.cells #[.int .i64 0, .slice none 0 0, .slice none 0 0] 38 (0, 0)) := (HSAME.out _ (by omega) (fun h => by have := HCB.out _ h; omega)).trans HG2.out
        obtain ⟨⟨y0, y1, y2, hy0, hy1, hy2⟩, HTB⟩ := Ku.two_boxes hkn hg8 hg2 (.int .i64 v1) (.slice s1 s2 s3) (.slice u1 u2 u3)
        obtain ⟨⟨x0, x1, x2⟩, z0, z1, z2, hz0, hz1, hz2⟩ := HTB _ rfl
        have HBELOW : Hid (Below w.heap.size w ((((((w6.setCell ⟨w2.heap.size, 0, none⟩ (.int .i64 v1)).setCell ⟨w2.heap.size, 1, none⟩ (.slice s1 s2 s3)).setCell ⟨w2.heap.size, 2, none⟩ (.slice u1 u2 u3)).setCell ⟨w.heap.size + 1, 0, none⟩ (.int .i64 v1)).setCell ⟨w.heap.size + 1, 1, none⟩ (.slice s1 s2 s3)).setCell ⟨w.heap.size + 1, 2, none⟩ (.slice u1 u2 u3))) := by
          have hb6 : Below w.heap.size w w6 := ⟨HWR.out.os.trans (HBWV.out.trans (HB5.out.mono HBWV.out.size)).os, HWR.out.tape.trans (HBWV.out.trans (HB5.out.mono HBWV.out.size)).tape, HWR.out.output.trans (HBWV.out.trans (HB5.out.mono HBWV.out.size)).output, by omega, fun b hb => (HSAME.out b (by omega) (fun h => by have := HCB.out b h; omega)).trans ((HBWV.out.trans (HB5.out.mono HBWV.out.size)).block b hb)⟩
          exact Nu.hid (below_set3 (below_set3 hb6 (by omega) _ _ _) (by omega) _ _ _)
        clear HTB hg8 hg2
        go_wp2
        refine bodyPost_ret (results_kura3 rfl rfl _ _ (w.heap.size + 1) _ _ _ _ _ rfl rfl rfl (set_three15 z0 z1 z2 _ _ _).1 (set_three15 z0 z1 z2 _ _ _).2.1 (set_three15 z0 z1 z2 _ _ _).2.2) rfl ?_
        have HOWN : Hid (OwnZ w6 w.heap.size (.slice la q lc) (Ku.ZL (Ku.brs es m))) := HOV.out w6 fun b h1 h2 => by
          rw [HSAME.out b (by omega) (fun h => by have := HCB.out b h; omega), HB5.out.block b (by omega), HVE.out]
          exact heap_alloc_old w2 _ h1
        refine ⟨.inr ⟨m, HV.out, rfl, ?_⟩, HBELOW.out⟩
        rw [Ku.recA_5 (HQN.out.trans H5.out) HALL.out, HRE.out]
        have hk := HK.out
        rw [show q = 5 from H5.out] at hk
        rw [show q = 5 from H5.out] at HOWN HLB
        refine Ku.kur_ans (c1 := w2.heap.size) (c2 := w.heap.size + 1) hk HOWN.out (by omega) (fun b h1 h2 => ?_) (fun b hb => ?_) (fun b k v pv r hb he => ?_) rfl
        · rw [Ku.set3_far _ _ _ b h2, Ku.set3_far _ _ _ b h1]
        · rcases hb with h | h | h
          · have := HLB.out b h
            omega
          · have := HCB.out b h
            omega
          · omega
        · have h1 := HLB.out b hb
          refine ⟨fun h => ?_, fun h => by have := HCB.out b h; omega⟩
          rcases hk.1 with ⟨_, h2⟩ | ⟨_, pv', vs, h2, _, h3, _⟩
          · rw [h2] at he
            unfold Ku.noKura at he
            cases he
            cases h
          · rw [h2] at he
            cases he
            have := h3 b h
            omega
      | false =>
        go_wp2_with (go_at_call 29; rw [← HVE.out]; refine HR4.out.mono ?_; rintro e w3 ⟨rfl, hb3⟩; refine Hid.out ?_)
        refine Nu.hid ?_
        have HX : Hid (Ku.recA (Ku.rows es HV.out es.length) es m = none) := HNONE.out (fun h => by have := HR.out.2 h.2; cases this) (fun h => by have h1 := HQN.out; have h2 := H5.out; omega)
        obtain ⟨g8, g2, -⟩ := HGET.out w3 hb3
        have HB3 := Nu.hid (HBWV.out.trans (hb3.mono HBWV.out.size))
        obtain ⟨y0, y1, y2, yf⟩ := cells3_15 g8
        obtain ⟨z0, z1, z2, zf⟩ := cells3_15 g2
        have hz0 := zf 0
        have hz1 := zf 1
        have hz2 := zf 2
        clear zf yf
        go_wp2
        refine bodyPost_ret (results_kura3 rfl rfl _ _ (w.heap.size + 1) _ _ _ _ _ rfl rfl rfl (set_three15 z0 z1 z2 _ _ _).1 (set_three15 z0 z1 z2 _ _ _).2.1 (set_three15 z0 z1 z2 _ _ _).2.2) rfl ?_
        exact ⟨.inr ⟨m, HV.out, rfl, by rw [HX.out]; rfl⟩, below_set3 HB3.out (by omega) _ _ _⟩
    · have t5 : ((q : Int) == 5) = false := by simp; omega
      by_cases h6 : q = 6
      · have t6 : ((q : Int) == 6) = true := by rw [h6]; rfl
        obtain ⟨r, hr⟩ := Ku.some_bool (∀ v ∈ Ku.brs es m, Ku.dg es v = 3)
        have HR4 : Hid (Calls Try.prog 29 #[.pointer (some ⟨p, 0, none⟩), .slice la q lc, .int .i64 3] V fun e w' => e = .returned (.bool r) ∧ Below V.heap.size V w') := HHV.out 3 r hr
        have HR := Nu.hid hr
        have H6 := Nu.hid h6
        clear hr h6 h5
        cases r with
        | true =>
          have HALL := Nu.hid (HR.out.1 rfl)
          go_wp2_with (go_at_call 29; rw [← HVE.out]; refine HR4.out.mono ?_; rintro e w3 ⟨rfl, hb3⟩; refine Hid.out ?_)
          refine Nu.hid ?_
          obtain ⟨HCc⟩ : Nonempty (Hid (Calls Try.prog 25 #[.pointer (some ⟨p, 0, none⟩)] w3 (Ku.ChnP es HV.out w3))) := ⟨HCHN.out w3 hb3⟩
          have HB3 := Nu.hid hb3
          have hs3 := hb3.size
          clear hb3
          go_wp2_with (go_at_call 25; refine HCc.out.mono ?_; refine Hid.out ?_)
          refine Nu.hid ?_
          rintro e w4 ⟨cv, cs, rfl, hrz, hb4⟩
          rw [HRE.out] at hrz
          obtain ⟨ca, cc, rfl⟩ := row_shape hrz
          obtain ⟨J, hJ⟩ : ∃ J, R.length = J := ⟨_, rfl⟩
          rw [hJ] at hrz ⊢
          have HJ := Nu.hid hJ
          have HRZ := Nu.hid hrz
          have HB4 := Nu.hid (HB3.out.trans (hb4.mono HB3.out.size))
          have hs4 := hb4.size
          have HSP := Nu.hid (vspin_any ca J cc R w4 hJ (by rw [← hJ] at hrz ⊢; exact Ku.sees_rows hrz) HSM.out)
          clear hrz hb4 hJ
          go_wp2_with (go_at_call 30; refine HSP.out.mono ?_; refine Hid.out ?_)
          refine Nu.hid ?_
          rintro e w5 ⟨mb, rfl, hmb, hom, hb5⟩
          have HB5 := Nu.hid (HB4.out.trans (hb5.mono HB4.out.size))
          have hs5 := hb5.size
          have HCB : Hid (∀ b, inV cs b → w3.heap.size ≤ b ∧ b < w4.heap.size) := fun b hb => HRZ.out.within (.inr hb)
          obtain ⟨g8, g2, hli⟩ := HGET.out w5 HB5.out
          have HFV : Hid (Calls Try.prog 32 #[.agg #[.slice ca J cc, .map (some mb)], .slice la q lc] w5 (Ku.TriP w3.heap.size cs R (Ku.ZL (Ku.brs es m)) q w5)) := by
            have h6 := H6.out
            have hpo := fun h3 => Ku.cout_ok (R := R) (L := Ku.ZL (Ku.brs es m)) (HZL.out.trans h6) HUPL.out HSML.out h3
            refine Nu.hid (vtri_any w3.heap.size ca J cc mb R.length cs R la q lc (Ku.ZL (Ku.brs es m)) w5 HJ.out (by omega) (HRZ.out.later hb5) HSM.out hom (fun h => ?_) HZL.out h6 hli HSML.out (by rw [h6]; exact fun h3 => (hpo h3).1) (by rw [h6]; exact fun h3 => (hpo h3).2))
            have := HCB.out mb h
            omega
          have HG8 := Nu.hid g8
          have HG2 := Nu.hid g2
          clear hom hb5 hli g8 g2
          go_wp2_with (go_at_call 32; refine HFV.out.mono ?_; refine Hid.out ?_)
          refine Nu.hid ?_
          rintro e w6 hk
          have HK := Nu.hid hk
          have hsh : ∃ (v1 : Int) (s1 : Option Addr) (s2 s3 : Nat) (u1 : Option Addr) (u2 u3 : Nat) (r : Bool), e = .returned (.tuple #[.agg #[.int .i64 v1, .slice s1 s2 s3, .slice u1 u2 u3], .bool r]) := by
            rcases hk with ⟨_, h, _⟩ | ⟨_, bv, ho, _, h⟩
            · exact ⟨_, _, _, _, _, _, _, _, h⟩
            · obtain ⟨xa, xc, rfl, -, -⟩ := ho.form
              exact h.shape
          obtain ⟨v1, s1, s2, s3, u1, u2, u3, rr, rfl⟩ := hsh
          have hwr : Wrote (fun b => inV cs b) w5 w6 := by
            rcases hk with ⟨_, _, h⟩ | ⟨_, bv, _, _, h⟩
            · exact (Wrote.refl _ w5).later h
            · exact h.2
          have HSAME : Hid (∀ b, b < w5.heap.size → ¬ inV cs b → w6.heap[b]? = w5.heap[b]?) := fun b h1 h2 => hwr.block b h1 h2
          have hs6 := hwr.size
          have HWR := Nu.hid hwr
          clear hk hwr
          have hg8 : w6.heap[w2.heap.size]? = some (.cells #[.int .i64 0, .slice none 0 0, .slice none 0 0] 38 (0, 0)) := (HSAME.out _ (by omega) (fun h => by have := HCB.out _ h; omega)).trans HG8.out
          have hg2 : w6.heap[w.heap.size + 1]? = some (.cells #[.int .i64 0, .slice none 0 0, .slice none 0 0] 38 (0, 0)) := (HSAME.out _ (by omega) (fun h => by have := HCB.out _ h; omega)).trans HG2.out
          obtain ⟨⟨y0, y1, y2, hy0, hy1, hy2⟩, HTB⟩ := Ku.two_boxes hkn hg8 hg2 (.int .i64 v1) (.slice s1 s2 s3) (.slice u1 u2 u3)
          obtain ⟨⟨x0, x1, x2⟩, z0, z1, z2, hz0, hz1, hz2⟩ := HTB _ rfl
          have HBELOW : Hid (Below w.heap.size w ((((((w6.setCell ⟨w2.heap.size, 0, none⟩ (.int .i64 v1)).setCell ⟨w2.heap.size, 1, none⟩ (.slice s1 s2 s3)).setCell ⟨w2.heap.size, 2, none⟩ (.slice u1 u2 u3)).setCell ⟨w.heap.size + 1, 0, none⟩ (.int .i64 v1)).setCell ⟨w.heap.size + 1, 1, none⟩ (.slice s1 s2 s3)).setCell ⟨w.heap.size + 1, 2, none⟩ (.slice u1 u2 u3))) := by
            have hb6 : Below w.heap.size w w6 := ⟨HWR.out.os.trans (HBWV.out.trans (HB5.out.mono HBWV.out.size)).os, HWR.out.tape.trans (HBWV.out.trans (HB5.out.mono HBWV.out.size)).tape, HWR.out.output.trans (HBWV.out.trans (HB5.out.mono HBWV.out.size)).output, by omega, fun b hb => (HSAME.out b (by omega) (fun h => by have := HCB.out b h; omega)).trans ((HBWV.out.trans (HB5.out.mono HBWV.out.size)).block b hb)⟩
            exact Nu.hid (below_set3 (below_set3 hb6 (by omega) _ _ _) (by omega) _ _ _)
          clear HTB hg8 hg2
          go_wp2
          refine bodyPost_ret (results_kura3 rfl rfl _ _ (w.heap.size + 1) _ _ _ _ _ rfl rfl rfl (set_three15 z0 z1 z2 _ _ _).1 (set_three15 z0 z1 z2 _ _ _).2.1 (set_three15 z0 z1 z2 _ _ _).2.2) rfl ?_
          refine ⟨.inr ⟨m, HV.out, rfl, ?_⟩, HBELOW.out⟩
          have hk := HK.out
          unfold Ku.TriP at hk
          rw [show q = 6 from H6.out] at hk
          rw [HRE.out]
          rcases hk with ⟨h3, h2, -⟩ | ⟨h3, bv, ho, hap, hk⟩
          · rw [Ku.recA_no (fun h => by have h1 := HQN.out; have h2 := H6.out; omega) fun h => h3 h.2.2]
            unfold Ku.noKura at h2
            cases h2
            rfl
          · rw [Ku.recA_6 (HQN.out.trans H6.out) HALL.out h3]
            have hbl : ∀ b, bv.ownBlock = some b → w5.heap.size ≤ b := fun b hb => (World.ownsRow.lt ho b hb).1
            refine Ku.kur_ans (c1 := w2.heap.size) (c2 := w.heap.size + 1) hk (ho.lower (by omega)) (by omega) (fun b h1 h2 => ?_) (fun b hb => ?_) (fun b k v pv r hb he => ?_) rfl
            · rw [Ku.set3_far _ _ _ b h2, Ku.set3_far _ _ _ b h1]
            · rcases hb with h | h | h
              · have := hbl b h
                omega
              · have := HCB.out b h
                omega
              · omega
            · exact ⟨(hap b k v pv r hb he).2, fun h => by have h1 := HCB.out b h; have h2 := hbl b hb; omega⟩
        | false =>
          go_wp2_with (go_at_call 29; rw [← HVE.out]; refine HR4.out.mono ?_; rintro e w3 ⟨rfl, hb3⟩; refine Hid.out ?_)
          refine Nu.hid ?_
          have HX : Hid (Ku.recA (Ku.rows es HV.out es.length) es m = none) := HNONE.out (fun h => by have h1 := HQN.out; have h2 := H6.out; omega) (fun h => by have := HR.out.2 h.2; cases this)
          obtain ⟨g8, g2, -⟩ := HGET.out w3 hb3
          have HB3 := Nu.hid (HBWV.out.trans (hb3.mono HBWV.out.size))
          obtain ⟨y0, y1, y2, yf⟩ := cells3_15 g8
          obtain ⟨z0, z1, z2, zf⟩ := cells3_15 g2
          have hz0 := zf 0
          have hz1 := zf 1
          have hz2 := zf 2
          clear zf yf
          go_wp2
          refine bodyPost_ret (results_kura3 rfl rfl _ _ (w.heap.size + 1) _ _ _ _ _ rfl rfl rfl (set_three15 z0 z1 z2 _ _ _).1 (set_three15 z0 z1 z2 _ _ _).2.1 (set_three15 z0 z1 z2 _ _ _).2.2) rfl ?_
          exact ⟨.inr ⟨m, HV.out, rfl, by rw [HX.out]; rfl⟩, below_set3 HB3.out (by omega) _ _ _⟩
      · have t6 : ((q : Int) == 6) = false := by simp; omega
        have HX : Hid (Ku.recA (Ku.rows es HV.out es.length) es m = none) := HNONE.out (fun h => by have h1 := HQN.out; omega) (fun h => by have h1 := HQN.out; omega)
        clear h5 h6
        obtain ⟨g8, g2, -⟩ := HGET.out V (Below.refl _ _)
        have HB3 := HBWV
        rw [HVE.out] at g8 g2 HB3
        obtain ⟨y0, y1, y2, yf⟩ := cells3_15 g8
        obtain ⟨z0, z1, z2, zf⟩ := cells3_15 g2
        have hz0 := zf 0
        have hz1 := zf 1
        have hz2 := zf 2
        clear zf yf
        go_wp2
        refine bodyPost_ret (results_kura3 rfl rfl _ _ (w.heap.size + 1) _ _ _ _ _ rfl rfl rfl (set_three15 z0 z1 z2 _ _ _).1 (set_three15 z0 z1 z2 _ _ _).2.1 (set_three15 z0 z1 z2 _ _ _).2.2) rfl ?_
        exact ⟨.inr ⟨m, HV.out, rfl, by rw [HX.out]; rfl⟩, below_set3 HB3.out (by omega) _ _ _⟩
  · have HVA := Nu.hid hv
    obtain ⟨z0, z1, z2, zf⟩ := cells3_15 hG1
    have hf0 := zf 0
    have hf1 := zf 1
    have hf2 := zf 2
    clear hv hb1 zf hG1
    go_wp2
    refine bodyPost_ret (results_kura3 rfl rfl _ _ (w.heap.size + 1) _ _ _ _ _ rfl rfl rfl (set_three15 z0 z1 z2 _ _ _).1 (set_three15 z0 z1 z2 _ _ _).2.1 (set_three15 z0 z1 z2 _ _ _).2.2) rfl ?_
    exact ⟨.inl ⟨HVA.out, rfl⟩, below_set3 HB1.out (by omega) _ _ _⟩
end Go.Proofs.Ytdhaaodalchpkaa
