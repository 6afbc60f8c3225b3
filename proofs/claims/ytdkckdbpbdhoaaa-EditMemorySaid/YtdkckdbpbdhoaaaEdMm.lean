/-
  The law EditMemory: from behind its first loop to the writing loops.
-/
import Derived.Test.YtdkckdbpbdhoaaaEdMt
import Derived.Test.YtdkckdbpbdhoaaaEdLw
import Derived.Test.YtdkckdbpbdhoaaaEdRc
import Derived.Test.YtdkckdbpbdhoaaaEdRd
namespace Go.Proofs.Ytdkckdbpbdhoaaa
open Go.ChangeShapes Go.WideShapes Go.ChangeAt Go.RowKit
namespace lawEM

section
variable {G0 M gr gn rc nc m2 q q2 B ga gl : Nat} {n N1 N2 c1 c2 : Int} {ao xo : Option Addr} {ca xc ac lc : Nat} {es L1 L2 : List (Int × Int)} {l LB : List Int} {vs : List (Int × Value)} {ls : List (List (Int × Int))} {lvs : List Value} {LL : List (List Int)} {x2 x17 y2 : Value} {w V : World}

set_option maxRecDepth 100000 in
set_option maxHeartbeats 32000000 in
theorem mid {t0 t2 t4 t5 t6 t7 t8 t15 t16 t17 t18 t19 t20 t21 t22 t23 t24 t25 t26 t27 t28 t29 t30 t31 t32 t33 t34 t35 t36 t37 t38 t39 t40 t41 t42 t43 t44 t45 t46 t47 t48 t49 t50 t51 t52 t53 t54 t55 t56 t57 t58 t59 t60 t61 t62 t63 t64 t65 t66 t67 t68 t69 t70 t71 t72 t73 t74 t75 t76 t77 t78 t79 t80 t81 t82 t83 t84 t85 t86 t87 t88 t89 t90 t91 t92 t93 t94 t95 t96 t97 t98 t99 t100 t101 t102 t103 t104 t105 t106 t107 t108 t109 t110 t111 t112 t113 t114 t115 t116 t117 t118 t119 t120 t121 t122 t123 t124 t125 t126 t127 t128 t129 t130 t131 t132 t133 t134 t135 t136 t137 t138 t139 t140 t141 t142 t143 t144 t145 t146 t147 t148 t149 t150 t151 t152 t153 t154 t155 t156 t157 t158 t159 t160 t161 t162 t163 t164 t165 t166 t167 t168 t169 t170 t171 t172 t173 t174 t175 t176 t177 t178 t179 t180 t181 t182 t183 t184 t185 t186 t187 t188 t189 t190 t191 t192 t193 t194 t195 t196 t197 t198 t199 t200 t201 t202 t203 t204 t205 t206 t207 t208 t209 t210 t211 t212 t213 t214 t215 t216 t217 t218 t219 t220 t221 t222 t223 t224 t225 t226 t227 t228 t229 t230 t231 t232 t233 t234 t235 t236 t237 t238 t239 t240 t241 t242 t243 t244 t245 t246 t247 t248 t249 t250 t251 t252 t253 t254 t255 t256 t257 t258 t259 t260 t261 t262 t263 t264 t265 t266 t267 t268 t269 t270 t271 t272 t273 t274 t275 t276 t277 t278 t279 t280 t281 t282 t283 t284 t285 t286 t287 t288 t289 t290 t291 t292 t293 t294 t295 t296 t297 t298 t299 t300 t301 t302 t303 t304 t305 t306 t307 t308 t309 t310 t311 t312 t313 t314 t315 t316 t317 t318 t319 t320 t321 t322 t323 t324 t325 t326 t327 t328 t329 t330 t331 t332 t333 t334 t335 t336 t337 t338 t339 t340 t341 t342 t343 t344 t345 t346 t347 t348 t349 t350 t351 t352 t353 t354 t355 t356 t357 t358 : Value} (ha : Grs V B (.slice (some ⟨ga, 0, none⟩) 40 ac) vs ls) (hK : ls.length = 40) (hll : ∀ k ∈ ls, k.length ≤ 4194305) (hB : B ≤ V.heap.size)
    (hL : RowsZ V B (.slice (some ⟨gl, 0, none⟩) 4 lc) lvs LL) (hLk : LL.length = 4) (hLl : ∀ k ∈ LL, k.length ≤ 8388608) (hdis : ∀ b, inG vs b → ¬ ((Value.slice (some ⟨gl, 0, none⟩) 4 lc).ownBlock = some b ∨ inV lvs b))
    (hs : Ed.sub n es l = (N1, L1, c1)) (hba : Ed.bare n es = (N2, L2, c2)) (hbl : Ed.bareL n es = LB) (h2 : vs[2]? = some (N1, x2)) (h2l : ls[2]? = some L1) (h17 : vs[17]? = some (N2, x17)) (h17l : ls[17]? = some L2) (hy2 : lvs[2]? = some y2) (hy2l : LL[2]? = some LB)
    (hKp : ∀ U, Below B V U → KeepM G0 M gr gn rc nc n ao xo ca es l U) (hm2 : m2 = es.length + 2) (hq : l.length = q) (hq2 : q2 = q + 2) (hel : es.length ≤ 8796093022000) (hql : q ≤ 17592186043904)
    (hbel : Below w.heap.size w V) (hlow : w.heap.size ≤ B) :
    Code.wp Try.prog (spine 10 (Try.f8.body.getD .skip)) (bodyPost Try.prog Try.f8 fun e w' => e = .returned (.bool true) ∧ Below w.heap.size w w') { tmps := #[t0, .slice xo q xc, t2, .pointer (some ⟨G0, 0, none⟩), t4, t5, t6, t7, t8, .slice (some ⟨gr, 0, none⟩) m2 rc, .pointer (some ⟨M, 0, none⟩), .slice (some ⟨gn, 0, none⟩) q2 nc, .slice (some ⟨gn, 0, none⟩) q nc, .slice (some ⟨ga, 0, none⟩) 40 ac, .slice (some ⟨gl, 0, none⟩) 4 lc, t15, t16, t17, t18, t19, t20, t21, t22, t23, t24, t25, t26, t27, t28, t29, t30, t31, t32, t33, t34, t35, t36, t37, t38, t39, t40, t41, t42, t43, t44, t45, t46, t47, t48, t49, t50, t51, t52, t53, t54, t55, t56, t57, t58, t59, t60, t61, t62, t63, t64, t65, t66, t67, t68, t69, t70, t71, t72, t73, t74, t75, t76, t77, t78, t79, t80, t81, t82, t83, t84, t85, t86, t87, t88, t89, t90, t91, t92, t93, t94, t95, t96, t97, t98, t99, t100, t101, t102, t103, t104, t105, t106, t107, t108, t109, t110, t111, t112, t113, t114, t115, t116, t117, t118, t119, t120, t121, t122, t123, t124, t125, t126, t127, t128, t129, t130, t131, t132, t133, t134, t135, t136, t137, t138, t139, t140, t141, t142, t143, t144, t145, t146, t147, t148, t149, t150, t151, t152, t153, t154, t155, t156, t157, t158, t159, t160, t161, t162, t163, t164, t165, t166, t167, t168, t169, t170, t171, t172, t173, t174, t175, t176, t177, t178, t179, t180, t181, t182, t183, t184, t185, t186, t187, t188, t189, t190, t191, t192, t193, t194, t195, t196, t197, t198, t199, t200, t201, t202, t203, t204, t205, t206, t207, t208, t209, t210, t211, t212, t213, t214, t215, t216, t217, t218, t219, t220, t221, t222, t223, t224, t225, t226, t227, t228, t229, t230, t231, t232, t233, t234, t235, t236, t237, t238, t239, t240, t241, t242, t243, t244, t245, t246, t247, t248, t249, t250, t251, t252, t253, t254, t255, t256, t257, t258, t259, t260, t261, t262, t263, t264, t265, t266, t267, t268, t269, t270, t271, t272, t273, t274, t275, t276, t277, t278, t279, t280, t281, t282, t283, t284, t285, t286, t287, t288, t289, t290, t291, t292, t293, t294, t295, t296, t297, t298, t299, t300, t301, t302, t303, t304, t305, t306, t307, t308, t309, t310, t311, t312, t313, t314, t315, t316, t317, t318, t319, t320, t321, t322, t323, t324, t325, t326, t327, t328, t329, t330, t331, t332, t333, t334, t335, t336, t337, t338, t339, t340, t341, t342, t343, t344, t345, t346, t347, t348, t349, t350, t351, t352, t353, t354, t355, t356, t357, t358], defers := [] } V := by
  have HKU : Hid (∀ U, Below V.heap.size V U → KeepM G0 M gr gn rc nc n ao xo ca es l U) := fun U hU => hKp U (hU.mono hB)
  have HSU : Hid (∀ U, Below V.heap.size V U → Calls Try.prog 21 #[.agg #[.int .i64 n, .slice ao es.length ca], .slice xo q xc] U (AnsP (N1, L1, c1) U)) := fun U hU => by
    have h := rsub_any n xo q xc l ao ca es U (HKU.out U hU).eg (by omega) hq (HKU.out U hU).ei (by omega)
    rw [hs] at h
    exact h
  have HBU : Hid (∀ U, Below V.heap.size V U → Calls Try.prog 27 #[.agg #[.int .i64 n, .slice ao es.length ca]] U (BareP (N2, L2, c2) LB U)) := fun U hU => by
    have h := rbare_any n ao ca es U (HKU.out U hU).eg (by omega)
    rw [hba, hbl] at h
    exact h
  have HA := Nu.hid ha
  have HK := Nu.hid hK
  have HLL := Nu.hid hll
  have HLZ := Nu.hid hL
  have HLK := Nu.hid hLk
  have HLL2 := Nu.hid hLl
  have HDIS := Nu.hid hdis
  have HKP := Nu.hid hKp
  have HM2 := Nu.hid hm2
  have HQ := Nu.hid hq
  have HQ2 := Nu.hid hq2
  have HBEL := Nu.hid hbel
  obtain ⟨xa, xk, hx2, -, -, -, -⟩ := (ha.row 2 _ L1 h2 h2l).form
  obtain ⟨za, zk, hx17, -, -, -, -⟩ := (ha.row 17 _ L2 h17 h17l).form
  obtain ⟨ya, yk, hxy, -, -⟩ := (hL.row 2 _ LB hy2 hy2l).form
  dsimp only at hx2 hx17
  subst hx2
  subst hx17
  subst hxy
  have HE2 : Hid (∀ U, Below V.heap.size V U → EdgesAt U xa L1 ∧ U.cell? ⟨ga, 4, none⟩ = some (.int .i64 N1) ∧ U.cell? ⟨ga, 5, none⟩ = some (.slice xa L1.length xk)) := fun U hU => by
    have hg := ha.later hU
    obtain ⟨a', c', e, -, -, h, -⟩ := (hg.row 2 _ L1 h2 h2l).form
    cases e
    obtain ⟨g, c, e, k0, k1⟩ := hg.look h2
    rw [hK] at e
    cases e
    exact ⟨h, k0, k1⟩
  have HE17 : Hid (∀ U, Below V.heap.size V U → EdgesAt U za L2 ∧ U.cell? ⟨ga, 34, none⟩ = some (.int .i64 N2) ∧ U.cell? ⟨ga, 35, none⟩ = some (.slice za L2.length zk)) := fun U hU => by
    have hg := ha.later hU
    obtain ⟨a', c', e, -, -, h, -⟩ := (hg.row 17 _ L2 h17 h17l).form
    cases e
    obtain ⟨g, c, e, k0, k1⟩ := hg.look h17
    rw [hK] at e
    cases e
    exact ⟨h, k0, k1⟩
  have HEY : Hid (∀ U, Below V.heap.size V U → IntsAt U ya LB ∧ U.cell? ⟨gl, 2, none⟩ = some (.slice ya LB.length yk)) := fun U hU => by
    have hg := hL.later hU
    obtain ⟨g, c, e, k1⟩ := row_at hg hy2
    rw [hLk] at e
    cases e
    exact ⟨ownz_at (hg.row 2 _ LB hy2 hy2l), k1⟩
  have hL1 : L1.length ≤ 4194305 := hll L1 (List.mem_of_getElem? h2l)
  have hL2 : L2.length ≤ 4194305 := hll L2 (List.mem_of_getElem? h17l)
  have hLB : LB.length ≤ 8388608 := hLl LB (List.mem_of_getElem? hy2l)
  obtain ⟨k0, k1⟩ := And.intro (HKU.out V (Below.refl _ _)).g0 (HKU.out V (Below.refl _ _)).g1
  have HS1 := Nu.hid (HSU.out V (Below.refl _ _))
  clear ha hK hll hL hLk hLl hdis hs hba hbl h2 h2l h17 h17l hy2 hy2l hKp hm2 hq hq2 hbel
  simp only [Try.f8, Option.getD, spine]
  go_wp2_with (go_at_call 21; refine HS1.out.mono ?_; rintro e W1 ⟨v, rfl, ho1, hb1⟩; refine Hid.out ?_)
  refine Nu.hid ?_
  obtain ⟨ua, uc, rfl, -, -, -, -⟩ := ho1.form
  try dsimp only at ho1
  try dsimp only
  have HG1 := Nu.hid (Got.new (n := N1) ho1)
  go_upto_region 26 with fail
  have hbz : Below W1.heap.size W1 (W1.alloc (.cells #[.int .i64 N1, .slice ua L1.length uc] 24)) := (Below.refl _ _).alloc (Nat.le_refl _) _
  have HB2 := Nu.hid (hb1.trans (hbz.mono hb1.size))
  obtain ⟨H1, hH1⟩ : ∃ H, H = W1.heap.size := ⟨_, rfl⟩
  rw [← hH1] at HG1 ⊢
  generalize W1.alloc (.cells #[.int .i64 N1, .slice ua L1.length uc] 24) = W2 at HB2 HG1 ⊢
  clear hH1 hbz hb1 ho1 k0 k1 HS1
  obtain ⟨k0, k1⟩ := And.intro (HKU.out W2 HB2.out).g0 (HKU.out W2 HB2.out).g1
  have HS2 := Nu.hid (HBU.out W2 HB2.out)
  go_wp2_with (go_at_call 27; refine HS2.out.mono ?_; rintro e W3 ⟨v, uu, rfl, ho3, hoz3, -, hb3⟩; refine Hid.out ?_)
  refine Nu.hid ?_
  obtain ⟨va, vc, rfl, -, -, -, -⟩ := ho3.form
  obtain ⟨wa, wk, rfl, hzi, -⟩ := hoz3.form
  try dsimp only at ho3
  try dsimp only
  have HG2 := Nu.hid (Got.new (n := N2) ho3)
  have HG1 := Nu.hid (HG1.out.later hb3)
  have HZ := Nu.hid hzi
  go_upto_region 27 with fail
  have hbz : Below W3.heap.size W3 (W3.alloc (.cells #[.int .i64 N2, .slice va L2.length vc] 24)) := (Below.refl _ _).alloc (Nat.le_refl _) _
  have HB4 := Nu.hid (HB2.out.trans ((hb3.trans (hbz.mono hb3.size)).mono HB2.out.size))
  have HG1 := Nu.hid (HG1.out.later hbz)
  have HZ := Nu.hid (HZ.out.later hbz)
  obtain ⟨H2, hH2⟩ : ∃ H, H = W3.heap.size := ⟨_, rfl⟩
  rw [← hH2] at HG2 ⊢
  generalize W3.alloc (.cells #[.int .i64 N2, .slice va L2.length vc] 24) = W4 at HB4 HG1 HG2 HZ ⊢
  clear hH2 hbz hb3 ho3 hoz3 hzi k0 k1 HS2
  have hD : ∀ D : LW W4, Below V.heap.size V D.val := fun D => HB4.out.trans (D.h.mono HB4.out.size)
  have d0 : ∀ D : LW W4, D.val.cell? ⟨ga, 4, none⟩ = some (.int .i64 N1) := fun D => (HE2.out _ (hD D)).2.1
  have d1 : ∀ D : LW W4, D.val.cell? ⟨ga, 5, none⟩ = some (.slice xa L1.length xk) := fun D => (HE2.out _ (hD D)).2.2
  have d2 : ∀ D : LW W4, D.val.cell? ⟨ga, 34, none⟩ = some (.int .i64 N2) := fun D => (HE17.out _ (hD D)).2.1
  have d3 : ∀ D : LW W4, D.val.cell? ⟨ga, 35, none⟩ = some (.slice za L2.length zk) := fun D => (HE17.out _ (hD D)).2.2
  have d4 : ∀ D : LW W4, D.val.cell? ⟨gl, 2, none⟩ = some (.slice ya LB.length yk) := fun D => (HEY.out _ (hD D)).2
  have d5 : ∀ D : LW W4, D.val.cell? ⟨H1, 0, none⟩ = some (.int .i64 N1) := fun D => (HG1.out.later D.h).cells.1
  have d6 : ∀ D : LW W4, D.val.cell? ⟨H1, 1, none⟩ = some (.slice ua L1.length uc) := fun D => (HG1.out.later D.h).cells.2
  have d7 : ∀ D : LW W4, D.val.cell? ⟨H2, 0, none⟩ = some (.int .i64 N2) := fun D => (HG2.out.later D.h).cells.1
  have d8 : ∀ D : LW W4, D.val.cell? ⟨H2, 1, none⟩ = some (.slice va L2.length vc) := fun D => (HG2.out.later D.h).cells.2
  have HC1 : Hid (∀ D : LW W4, Calls Try.prog 32 #[.agg #[.int .i64 N1, .slice xa L1.length xk], .agg #[.int .i64 N1, .slice ua L1.length uc]] D.val fun e w' => e = .returned (.bool true) ∧ Below D.val.heap.size D.val w') := fun D => same_true N1 xa ua xk uc L1 D.val (HE2.out _ (hD D)).1 (HG1.out.later D.h).ed (by omega)
  have HC2 : Hid (∀ D : LW W4, Calls Try.prog 32 #[.agg #[.int .i64 N2, .slice za L2.length zk], .agg #[.int .i64 N2, .slice va L2.length vc]] D.val fun e w' => e = .returned (.bool true) ∧ Below D.val.heap.size D.val w') := fun D => same_true N2 za va zk vc L2 D.val (HE17.out _ (hD D)).1 (HG2.out.later D.h).ed (by omega)
  have HC3 : Hid (∀ D : LW W4, Calls Try.prog 28 #[.slice ya LB.length yk, .slice wa LB.length wk] D.val fun e w' => e = .returned (.bool true) ∧ Below D.val.heap.size D.val w') := fun D => by
    have h := alike_any ya wa yk wk LB.length LB.length LB LB D.val rfl rfl (HEY.out _ (hD D)).1 (HZ.out.later D.h) (by omega)
    have hself : decide (LB = LB) = true := by simp
    rw [hself] at h
    exact h
  have hne := LW.any W4
  clear hD
  go_wp2_with fail
  refine wp_region_lw (by kernel_rfl) (by kernel_rfl) ?_
  repeat (go_big_quiet_step ((first | (go_at_call 32; first | (with_reducible exact Calls.lw (HC1.out _)) | (with_reducible exact Calls.lw (HC2.out _))) | (go_at_call 28; exact Calls.lw (HC3.out _)))))
  refine wpQuiet_nil ?_
  rintro _ ⟨E, rfl⟩
  have hbE : Below V.heap.size V E.val := HB4.out.trans (E.h.mono HB4.out.size)
  obtain ⟨WE, hWE⟩ : ∃ WE, WE = E.val := ⟨_, rfl⟩
  rw [← hWE] at hbE ⊢
  clear d0 d1 d2 d3 d4 d5 d6 d7 d8 hne hWE
  have hgA := HA.out.later hbE
  have hrL := HLZ.out.later hbE
  have hBE : B ≤ WE.heap.size := Nat.le_trans hB hbE.size
  have k1 : ∀ U, Wrote (inG vs) WE U → RowsZ U B (.slice (some ⟨gl, 0, none⟩) 4 lc) lvs LL := fun U hU => hrL.kept fun b hb hlt => hU.block b hlt (fun h => HDIS.out b h hb)
  have hin : ∀ b, (inG vs b ∨ inV lvs b) → B ≤ b := fun b hb => by
    rcases hb with hb | ⟨u, x, hx, hxb⟩
    · exact (hgA.within (.inr hb)).1
    · obtain ⟨r, hr⟩ := hrL.at hx
      exact (World.ownsRow.lt (hrL.row u x r hx hr) b hxb).1
  have k2 : ∀ U, Wrote (fun b => inG vs b ∨ inV lvs b) WE U → KeepM G0 M gr gn rc nc n ao xo ca es l U := fun U hU => HKP.out U ((hbE.mono hB).trans (hU.below hBE hin))
  have k3 : Below w.heap.size w WE := HBEL.out.trans (hbE.mono HBEL.out.size)
  have k4 : ∀ b, (inG vs b ∨ inV lvs b) → w.heap.size ≤ b := fun b hb => Nat.le_trans hlow (hin b hb)
  repeat (first | exact tail hgA HK.out (by omega) HLL.out hBE hBE k1 (by rw [HLK.out]; omega) HLL2.out k2 HM2.out HQ.out HQ2.out hel hql k3 k4 | go_step)
end
end lawEM
end Go.Proofs.Ytdkckdbpbdhoaaa
