/-
  The law EditMemory: its first loop: ten answers a round.
-/
import Derived.Test.YtdkckdbpbdhoaaaEdMm
import Derived.Test.YtdkckdbpbdhoaaaMgF
import Derived.Test.YtdkckdbpbdhoaaaMgD
import Derived.Test.YtdkckdbpbdhoaaaEdW2
import Derived.Test.YtdkckdbpbdhoaaaEdW3
import Derived.Test.YtdkckdbpbdhoaaaMgI
import Derived.Test.YtdkckdbpbdhoaaaEdW9
import Derived.Deep.CutRange
namespace Go.Proofs.Ytdkckdbpbdhoaaa
open Go.ChangeShapes Go.WideShapes Go.ChangeAt Go.RowKit
namespace lawEM

/-- So often, one behind the other. -/
def rep {α : Type} (R : List α) : Nat → List α
  | 0 => []
  | k + 1 => rep R k ++ R

theorem rep_mem {α : Type} {R : List α} {x : α} : ∀ {k : Nat}, x ∈ rep R k → x ∈ R
  | 0, h => by simp [rep] at h
  | k + 1, h => by
    simp only [rep, List.mem_append] at h
    rcases h with h | h
    · exact rep_mem h
    · exact h

theorem KeepM.later {G0 M gr gn rc nc : Nat} {n : Int} {ao xo : Option Addr} {ca : Nat} {es : List (Int × Int)} {l : List Int} {V U : World} (h : KeepM G0 M gr gn rc nc n ao xo ca es l V) (hb : Below V.heap.size V U) : KeepM G0 M gr gn rc nc n ao xo ca es l U := by
  have k : ∀ {b i : Nat} {v : Value}, V.cell? ⟨b, i, none⟩ = some v → U.cell? ⟨b, i, none⟩ = some v := fun {b i v} hv => (hb.cell (p := ⟨b, i, none⟩) (block_lt_of_cell hv)).trans hv
  exact ⟨k h.g0, k h.g1, k h.h0, k h.h1, h.eg.later hb, h.er.later hb, k h.r0, k h.r1, k h.r2, k h.r3, h.en.later hb, h.ei.later hb, k h.n0, k h.n1⟩

section
variable {G0 M X gr gn rc nc m2 q q2 : Nat} {n kk x1 x2 : Int} {ao xo : Option Addr} {ca xc : Nat} {es : List (Int × Int)} {l : List Int} {w V : World}

set_option maxRecDepth 100000 in
set_option maxHeartbeats 64000000 in
theorem rounds {t0 t2 t4 t5 t6 t15 t16 t17 t18 t19 t20 t21 t22 t23 t24 t25 t26 t27 t28 t29 t30 t31 t32 t33 t34 t35 t36 t37 t38 t39 t40 t41 t42 t43 t44 t45 t46 t47 t48 t49 t50 t51 t52 t53 t54 t55 t56 t57 t58 t59 t60 t61 t62 t63 t64 t65 t66 t67 t68 t69 t70 t71 t72 t73 t74 t75 t76 t77 t78 t79 t80 t81 t82 t83 t84 t85 t86 t87 t88 t89 t90 t91 t92 t93 t94 t95 t96 t97 t98 t99 t100 t101 t102 t103 t104 t105 t106 t107 t108 t109 t110 t111 t112 t113 t114 t115 t116 t117 t118 t119 t120 t121 t122 t123 t124 t125 t126 t127 t128 t129 t130 t131 t132 t133 t134 t135 t136 t137 t138 t139 t140 t141 t142 t143 t144 t145 t146 t147 t148 t149 t150 t151 t152 t153 t154 t155 t156 t157 t158 t159 t160 t161 t162 t163 t164 t165 t166 t167 t168 t169 t170 t171 t172 t173 t174 t175 t176 t177 t178 t179 t180 t181 t182 t183 t184 t185 t186 t187 t188 t189 t190 t191 t192 t193 t194 t195 t196 t197 t198 t199 t200 t201 t202 t203 t204 t205 t206 t207 t208 t209 t210 t211 t212 t213 t214 t215 t216 t217 t218 t219 t220 t221 t222 t223 t224 t225 t226 t227 t228 t229 t230 t231 t232 t233 t234 t235 t236 t237 t238 t239 t240 t241 t242 t243 t244 t245 t246 t247 t248 t249 t250 t251 t252 t253 t254 t255 t256 t257 t258 t259 t260 t261 t262 t263 t264 t265 t266 t267 t268 t269 t270 t271 t272 t273 t274 t275 t276 t277 t278 t279 t280 t281 t282 t283 t284 t285 t286 t287 t288 t289 t290 t291 t292 t293 t294 t295 t296 t297 t298 t299 t300 t301 t302 t303 t304 t305 t306 t307 t308 t309 t310 t311 t312 t313 t314 t315 t316 t317 t318 t319 t320 t321 t322 t323 t324 t325 t326 t327 t328 t329 t330 t331 t332 t333 t334 t335 t336 t337 t338 t339 t340 t341 t342 t343 t344 t345 t346 t347 t348 t349 t350 t351 t352 t353 t354 t355 t356 t357 t358 : Value} (hkp : KeepM G0 M gr gn rc nc n ao xo ca es l V) (hX : V.heap[X]? = some (.cells #[.int .i64 x1, .int .i64 x2] 26 (0, 0))) (hm2 : m2 = es.length + 2) (hq : l.length = q) (hq2 : q2 = q + 2) (hel : es.length ≤ 8796093022000) (hql : q ≤ 17592186043904) (hbel : Below w.heap.size w V) :
    Code.wp Try.prog (spine 9 (Try.f8.body.getD .skip)) (bodyPost Try.prog Try.f8 fun e w' => e = .returned (.bool true) ∧ Below w.heap.size w w') { tmps := #[t0, .slice xo q xc, t2, .pointer (some ⟨G0, 0, none⟩), t4, t5, t6, .int .i64 kk, .pointer (some ⟨X, 0, none⟩), .slice (some ⟨gr, 0, none⟩) m2 rc, .pointer (some ⟨M, 0, none⟩), .slice (some ⟨gn, 0, none⟩) q2 nc, .slice (some ⟨gn, 0, none⟩) q nc, .slice none 0 0, .slice none 0 0, t15, t16, t17, t18, t19, t20, t21, t22, t23, t24, t25, t26, t27, t28, t29, t30, t31, t32, t33, t34, t35, t36, t37, t38, t39, t40, t41, t42, t43, t44, t45, t46, t47, t48, t49, t50, t51, t52, t53, t54, t55, t56, t57, t58, t59, t60, t61, t62, t63, t64, t65, t66, t67, t68, t69, t70, t71, t72, t73, t74, t75, t76, t77, t78, t79, t80, t81, t82, t83, t84, t85, t86, t87, t88, t89, t90, t91, t92, t93, t94, t95, t96, t97, t98, t99, t100, t101, t102, t103, t104, t105, t106, t107, t108, t109, t110, t111, t112, t113, t114, t115, t116, t117, t118, t119, t120, t121, t122, t123, t124, t125, t126, t127, t128, t129, t130, t131, t132, t133, t134, t135, t136, t137, t138, t139, t140, t141, t142, t143, t144, t145, t146, t147, t148, t149, t150, t151, t152, t153, t154, t155, t156, t157, t158, t159, t160, t161, t162, t163, t164, t165, t166, t167, t168, t169, t170, t171, t172, t173, t174, t175, t176, t177, t178, t179, t180, t181, t182, t183, t184, t185, t186, t187, t188, t189, t190, t191, t192, t193, t194, t195, t196, t197, t198, t199, t200, t201, t202, t203, t204, t205, t206, t207, t208, t209, t210, t211, t212, t213, t214, t215, t216, t217, t218, t219, t220, t221, t222, t223, t224, t225, t226, t227, t228, t229, t230, t231, t232, t233, t234, t235, t236, t237, t238, t239, t240, t241, t242, t243, t244, t245, t246, t247, t248, t249, t250, t251, t252, t253, t254, t255, t256, t257, t258, t259, t260, t261, t262, t263, t264, t265, t266, t267, t268, t269, t270, t271, t272, t273, t274, t275, t276, t277, t278, t279, t280, t281, t282, t283, t284, t285, t286, t287, t288, t289, t290, t291, t292, t293, t294, t295, t296, t297, t298, t299, t300, t301, t302, t303, t304, t305, t306, t307, t308, t309, t310, t311, t312, t313, t314, t315, t316, t317, t318, t319, t320, t321, t322, t323, t324, t325, t326, t327, t328, t329, t330, t331, t332, t333, t334, t335, t336, t337, t338, t339, t340, t341, t342, t343, t344, t345, t346, t347, t348, t349, t350, t351, t352, t353, t354, t355, t356, t357, t358], defers := [] } V := by
  obtain ⟨iG, hiG, hG0, hG1, hG2⟩ := info_parts Try.infoGraph
  obtain ⟨iR, hiR, hR0, hR1, hR2⟩ := info_parts Try.infoRow
  have HKV : Hid (∀ W, Below V.heap.size V W → KeepM G0 M gr gn rc nc n ao xo ca es l W) := fun W hb => hkp.later hb
  have HXV : Hid (∀ W, Below V.heap.size V W → W.cell? ⟨X, 0, none⟩ = some (.int .i64 x1) ∧ W.cell? ⟨X, 1, none⟩ = some (.int .i64 x2)) := fun W hb => ⟨(pair_cells (blk_later hX hb)).1, (pair_cells (blk_later hX hb)).2.1⟩
  have HC1 : Hid (∀ W, Below V.heap.size V W → Calls Try.prog 10 #[.agg #[.int .i64 n, .slice (some ⟨gr, 0, none⟩) es.length rc], .int .i64 kk] W (AnsP (Ed.without n es kk) W)) := fun W hb => by
    have k := hkp.later hb
    exact ewithout_any n kk (some ⟨gr, 0, none⟩) rc es W k.er (by omega)
  have HC2 : Hid (∀ W, Below V.heap.size V W → Calls Try.prog 13 #[.agg #[.int .i64 n, .slice (some ⟨gr, 0, none⟩) es.length rc], .agg #[.int .i64 x1, .int .i64 x2]] W (AnsP (Ed.withE n es (x1, x2)) W)) := fun W hb => by
    have k := hkp.later hb
    exact ewith_any n (x1, x2) (some ⟨gr, 0, none⟩) rc es W k.er (by omega)
  have HC3 : Hid (∀ W, Below V.heap.size V W → Calls Try.prog 20 #[.agg #[.int .i64 n, .slice (some ⟨gr, 0, none⟩) es.length rc], .slice (some ⟨gn, 0, none⟩) q nc] W (AnsP (Ed.sub n es l) W)) := fun W hb => by
    have k := hkp.later hb
    exact esub_any n (some ⟨gn, 0, none⟩) q nc l (some ⟨gr, 0, none⟩) rc es W k.er (by omega) hq k.en (by omega)
  have HC4 : Hid (∀ W, Below V.heap.size V W → Calls Try.prog 29 #[.agg #[.int .i64 n, .slice (some ⟨gr, 0, none⟩) es.length rc], .agg #[.int .i64 n, .slice (some ⟨gr, 0, none⟩) es.length rc]] W (AnsP (Ed.beside n es n es) W)) := fun W hb => by
    have k := hkp.later hb
    exact ebeside_any n n (some ⟨gr, 0, none⟩) (some ⟨gr, 0, none⟩) rc rc es es W k.er k.er (by omega) (by omega)
  have HC5 : Hid (∀ W, Below V.heap.size V W → Calls Try.prog 22 #[.agg #[.int .i64 n, .slice (some ⟨gr, 0, none⟩) es.length rc], .slice (some ⟨gn, 0, none⟩) q nc] W (AnsP (Ed.relabel n es l) W)) := fun W hb => by
    have k := hkp.later hb
    exact erelabel_any n (some ⟨gn, 0, none⟩) q nc l (some ⟨gr, 0, none⟩) rc es W k.er (by omega) hq k.en (by omega)
  have HC6 : Hid (∀ W, Below V.heap.size V W → Calls Try.prog 15 #[.agg #[.int .i64 n, .slice (some ⟨gr, 0, none⟩) es.length rc], .int .i64 kk] W (AnsP (Ed.divide n es kk) W)) := fun W hb => by
    have k := hkp.later hb
    exact edivide_any n kk (some ⟨gr, 0, none⟩) rc es W k.er (by omega)
  have HC7 : Hid (∀ W, Below V.heap.size V W → Calls Try.prog 17 #[.agg #[.int .i64 n, .slice (some ⟨gr, 0, none⟩) es.length rc]] W (AnsP (Ed.apex n es) W)) := fun W hb => by
    have k := hkp.later hb
    exact eapex_any n (some ⟨gr, 0, none⟩) rc es W k.er (by omega)
  have HC8 : Hid (∀ W, Below V.heap.size V W → Calls Try.prog 26 #[.agg #[.int .i64 n, .slice (some ⟨gr, 0, none⟩) es.length rc]] W (BareP (Ed.bare n es) (Ed.bareL n es) W)) := fun W hb => by
    have k := hkp.later hb
    exact ebare_any n (some ⟨gr, 0, none⟩) rc es W k.er (by omega)
  have HC9 : Hid (∀ W, Below V.heap.size V W → Calls Try.prog 24 #[.agg #[.int .i64 n, .slice (some ⟨gr, 0, none⟩) es.length rc], .slice (some ⟨gn, 0, none⟩) q nc] W (AnsP (Ed.induced n es l) W)) := fun W hb => by
    have k := hkp.later hb
    exact einduced_any n (some ⟨gn, 0, none⟩) q nc l (some ⟨gr, 0, none⟩) rc es W k.er (by omega) hq k.en (by omega)
  have HC10 : Hid (∀ W fa fc, Below V.heap.size V W → IntsAt W fa (Ed.fr 0 es.length) → Calls Try.prog 20 #[.agg #[.int .i64 n, .slice (some ⟨gr, 0, none⟩) es.length rc], .slice fa es.length fc] W (AnsP (Ed.sub n es (Ed.fr 0 es.length)) W)) := fun W fa fc hb hi => by
    have k := hkp.later hb
    exact esub_any n fa es.length fc (Ed.fr 0 es.length) (some ⟨gr, 0, none⟩) rc es W k.er (by omega) (Ed.fr_length _ _) hi (by omega)
  have HFR : Hid (∀ W, Calls Try.prog 31 #[.int .i64 0, .int .i64 (es.length : Int)] W fun e w' => ∃ a c, e = .returned (.slice a es.length c) ∧ OwnZ w' W.heap.size (.slice a es.length c) (Ed.fr 0 es.length) ∧ Below W.heap.size W w') := fun W => from_big 0 es.length W (by omega) hel
  have hf1 := Ed.without_few n es kk
  obtain ⟨⟨N1, L1, c1⟩, hr1⟩ : ∃ r, Ed.without n es kk = r := ⟨_, rfl⟩
  rw [hr1] at HC1 hf1
  have hf2 := Ed.withE_few n es (x1, x2)
  obtain ⟨⟨N2, L2, c2⟩, hr2⟩ : ∃ r, Ed.withE n es (x1, x2) = r := ⟨_, rfl⟩
  rw [hr2] at HC2 hf2
  have hf3 := Ed.sub_few n es l
  obtain ⟨⟨N3, L3, c3⟩, hr3⟩ : ∃ r, Ed.sub n es l = r := ⟨_, rfl⟩
  rw [hr3] at HC3 hf3
  have hf4 := Ed.beside_few n es n es
  obtain ⟨⟨N4, L4, c4⟩, hr4⟩ : ∃ r, Ed.beside n es n es = r := ⟨_, rfl⟩
  rw [hr4] at HC4 hf4
  have hf5 := Ed.relabel_few n es l
  obtain ⟨⟨N5, L5, c5⟩, hr5⟩ : ∃ r, Ed.relabel n es l = r := ⟨_, rfl⟩
  rw [hr5] at HC5 hf5
  have hf6 := Ed.divide_few n es kk
  obtain ⟨⟨N6, L6, c6⟩, hr6⟩ : ∃ r, Ed.divide n es kk = r := ⟨_, rfl⟩
  rw [hr6] at HC6 hf6
  have hf7 := Ed.apex_few n es
  obtain ⟨⟨N7, L7, c7⟩, hr7⟩ : ∃ r, Ed.apex n es = r := ⟨_, rfl⟩
  rw [hr7] at HC7 hf7
  have hf8 := Ed.bare_few n es
  obtain ⟨⟨N8, L8, c8⟩, hr8⟩ : ∃ r, Ed.bare n es = r := ⟨_, rfl⟩
  rw [hr8] at HC8 hf8
  have hf9 := Ed.induced_few n es l
  obtain ⟨⟨N9, L9, c9⟩, hr9⟩ : ∃ r, Ed.induced n es l = r := ⟨_, rfl⟩
  rw [hr9] at HC9 hf9
  have hf10 := Ed.sub_few n es (Ed.fr 0 es.length)
  obtain ⟨⟨N10, L10, c10⟩, hr10⟩ : ∃ r, Ed.sub n es (Ed.fr 0 es.length) = r := ⟨_, rfl⟩
  rw [hr10] at HC10 hf10
  obtain ⟨LB, hrB⟩ : ∃ r, Ed.bareL n es = r := ⟨_, rfl⟩
  have hfB := Ed.bareL_few n es
  rw [hrB] at HC8 hfB
  dsimp only at hf1 hf2 hf3 hf4 hf5 hf6 hf7 hf8 hf9 hf10
  have HR3 := Nu.hid hr3
  have HR8 := Nu.hid hr8
  have HRB := Nu.hid hrB
  have HFEW : Hid (∀ k ∈ [L1, L2, L3, L4, L5, L6, L7, L8, L9, L10], k.length ≤ 4194305) := by
    intro k hk
    simp only [List.mem_cons, List.not_mem_nil, or_false] at hk
    rcases hk with rfl | rfl | rfl | rfl | rfl | rfl | rfl | rfl | rfl | rfl <;> omega
  have HM2 := Nu.hid hm2
  have HQ := Nu.hid hq
  have HQ2 := Nu.hid hq2
  have HBEL := Nu.hid hbel
  clear hkp hX hm2 hq hq2 hbel hrB hr1 hf1 hr2 hf2 hr3 hf3 hr4 hf4 hr5 hf5 hr6 hf6 hr7 hf7 hr8 hf8 hr9 hf9 hr10 hf10
  simp only [Try.f8, Option.getD, spine]
  go_wp2
  go_loopw [13, 14, 15] (fun v u c wr => ∃ (k : Nat) (vs : List (Int × Value)) (lvs : List Value), k ≤ 4 ∧ c = .int .i64 (k : Int) ∧ Grs wr V.heap.size v vs (rep [L1, L2, L3, L4, L5, L6, L7, L8, L9, L10] k) ∧ vs.map Prod.fst = rep [N1, N2, N3, N4, N5, N6, N7, N8, N9, N10] k ∧ RowsZ wr V.heap.size u lvs (rep [LB] k) ∧ (∀ b, (v.ownBlock = some b ∨ inG vs b) → ¬ (u.ownBlock = some b ∨ inV lvs b)) ∧ Below V.heap.size V wr) (fun _ _ c _ => 4 - (intOf c).toNat)
  case atStart => exact ⟨0, [], [], by omega, rfl, Grs.nil _ _, rfl, RowsZ.nil _ _, fun b hb => (by rcases hb with hb | ⟨u, x, hx, _⟩ <;> simp [Value.ownBlock] at *), Below.refl _ _⟩
  case round =>
    obtain ⟨k, vs, lvs, hk, rfl, hgr, hfst, hrz, hdis, hb⟩ := hrel
    obtain ⟨va, vc, hve⟩ := hgr.shape
    obtain ⟨ua, uc, hue⟩ := row_shape hrz
    obtain ⟨K, hK⟩ : ∃ K, (rep [L1, L2, L3, L4, L5, L6, L7, L8, L9, L10] k).length = K := ⟨_, rfl⟩
    obtain ⟨J, hJ⟩ : ∃ J, (rep [LB] k).length = J := ⟨_, rfl⟩
    rw [hK] at hve
    rw [hJ] at hue
    subst hve
    subst hue
    have HGR := Nu.hid hgr
    have HFST := Nu.hid hfst
    have HRZ := Nu.hid hrz
    have HDIS := Nu.hid hdis
    have hKk : K = 10 * k ∧ J = k := by
      rw [← hK, ← hJ]
      have : k = 0 ∨ k = 1 ∨ k = 2 ∨ k = 3 ∨ k = 4 := by omega
      rcases this with rfl | rfl | rfl | rfl | rfl <;> simp [rep]
    have hK40 : K ≤ 40 := by omega
    have hJ4 : J ≤ 4 := by omega
    have HKK := Nu.hid hKk
    clear hKk
    obtain ⟨U1, rfl⟩ : ∃ U1, U1 = wr := ⟨wr, rfl⟩
    have HB1 := Nu.hid hb
    have HK := Nu.hid hK
    have HJ := Nu.hid hJ
    have hVU := hb.size
    have hwk : IntKind.i64.wrap ((k : Int) + 1) = (k : Int) + 1 := by rw [IntKind.wrap_i64]; omega
    clear hgr hfst hrz hdis hb hK hJ
    by_cases hlt : k < 4
    · have hlti : (k : Int) < 4 := by omega
      have HBG := Nu.hid (Bag.nil U1.heap.size U1)
      have hz1 : U1.heap.size ≤ U1.heap.size := Nat.le_refl _
      have HW1 : Hid (Below U1.heap.size U1 U1) := Below.refl _ _
      have hkk := HKV.out U1 HB1.out
      obtain ⟨m0, m1⟩ := And.intro hkk.h0 hkk.h1
      clear hkk
      have HCC := Nu.hid (HC1.out U1 HB1.out)
      go_wp2_with (go_at_call 10; refine HCC.out.mono ?_; rintro e T1 ⟨v, rfl, ho, hb⟩; refine Hid.out ?_)
      refine Nu.hid ?_
      obtain ⟨a1, k1, rfl, -, -, -, -⟩ := ho.form
      try dsimp only at ho
      have HBG := Nu.hid (HBG.out.push hz1 hb ho N1)
      try dsimp only
      go_upto_region 14 with fail
      have hbz : Below T1.heap.size T1 (T1.alloc (.cells #[.int .i64 N1, .slice a1 L1.length k1] 24)) := (Below.refl _ _).alloc (Nat.le_refl _) _
      have hbu := hb.trans (hbz.mono hb.size)
      have HB2 := Nu.hid (HB1.out.trans (hbu.mono HB1.out.size))
      have hz2 := Nat.le_trans hz1 hbu.size
      have HW2 := Nu.hid (HW1.out.trans (hbu.mono HW1.out.size))
      obtain ⟨H1, hH⟩ : ∃ H, H = T1.heap.size := ⟨_, rfl⟩
      rw [← hH] at HBG ⊢
      generalize T1.alloc (.cells #[.int .i64 N1, .slice a1 L1.length k1] 24) = U2 at HB2 HBG HW2 hz2 ⊢
      clear hH hbz hbu hb ho m0 m1 HCC
      have hkk := HKV.out U2 HB2.out
      obtain ⟨m0, m1⟩ := And.intro hkk.h0 hkk.h1
      obtain ⟨y0, y1⟩ := HXV.out U2 HB2.out
      clear hkk
      have HCC := Nu.hid (HC2.out U2 HB2.out)
      go_wp2_with (go_at_call 13; refine HCC.out.mono ?_; rintro e T2 ⟨v, rfl, ho, hb⟩; refine Hid.out ?_)
      refine Nu.hid ?_
      obtain ⟨a2, k2, rfl, -, -, -, -⟩ := ho.form
      try dsimp only at ho
      have HBG := Nu.hid (HBG.out.push hz2 hb ho N2)
      try dsimp only
      go_upto_region 15 with fail
      have hbz : Below T2.heap.size T2 (T2.alloc (.cells #[.int .i64 N2, .slice a2 L2.length k2] 24)) := (Below.refl _ _).alloc (Nat.le_refl _) _
      have hbu := hb.trans (hbz.mono hb.size)
      have HB3 := Nu.hid (HB2.out.trans (hbu.mono HB2.out.size))
      have hz3 := Nat.le_trans hz2 hbu.size
      have HW3 := Nu.hid (HW2.out.trans (hbu.mono HW2.out.size))
      obtain ⟨H2, hH⟩ : ∃ H, H = T2.heap.size := ⟨_, rfl⟩
      rw [← hH] at HBG ⊢
      generalize T2.alloc (.cells #[.int .i64 N2, .slice a2 L2.length k2] 24) = U3 at HB3 HBG HW3 hz3 ⊢
      clear hH hbz hbu hb ho m0 m1 HCC y0 y1
      have hkk := HKV.out U3 HB3.out
      obtain ⟨m0, m1⟩ := And.intro hkk.h0 hkk.h1
      clear hkk
      have HCC := Nu.hid (HC3.out U3 HB3.out)
      go_wp2_with (go_at_call 20; refine HCC.out.mono ?_; rintro e T3 ⟨v, rfl, ho, hb⟩; refine Hid.out ?_)
      refine Nu.hid ?_
      obtain ⟨a3, k3, rfl, -, -, -, -⟩ := ho.form
      try dsimp only at ho
      have HBG := Nu.hid (HBG.out.push hz3 hb ho N3)
      try dsimp only
      go_upto_region 16 with fail
      have hbz : Below T3.heap.size T3 (T3.alloc (.cells #[.int .i64 N3, .slice a3 L3.length k3] 24)) := (Below.refl _ _).alloc (Nat.le_refl _) _
      have hbu := hb.trans (hbz.mono hb.size)
      have HB4 := Nu.hid (HB3.out.trans (hbu.mono HB3.out.size))
      have hz4 := Nat.le_trans hz3 hbu.size
      have HW4 := Nu.hid (HW3.out.trans (hbu.mono HW3.out.size))
      obtain ⟨H3, hH⟩ : ∃ H, H = T3.heap.size := ⟨_, rfl⟩
      rw [← hH] at HBG ⊢
      generalize T3.alloc (.cells #[.int .i64 N3, .slice a3 L3.length k3] 24) = U4 at HB4 HBG HW4 hz4 ⊢
      clear hH hbz hbu hb ho m0 m1 HCC
      have hkk := HKV.out U4 HB4.out
      obtain ⟨m0, m1⟩ := And.intro hkk.h0 hkk.h1
      clear hkk
      have HCC := Nu.hid (HC4.out U4 HB4.out)
      go_wp2_with (go_at_call 29; refine HCC.out.mono ?_; rintro e T4 ⟨v, rfl, ho, hb⟩; refine Hid.out ?_)
      refine Nu.hid ?_
      obtain ⟨a4, k4, rfl, -, -, -, -⟩ := ho.form
      try dsimp only at ho
      have HBG := Nu.hid (HBG.out.push hz4 hb ho N4)
      try dsimp only
      go_upto_region 17 with fail
      have hbz : Below T4.heap.size T4 (T4.alloc (.cells #[.int .i64 N4, .slice a4 L4.length k4] 24)) := (Below.refl _ _).alloc (Nat.le_refl _) _
      have hbu := hb.trans (hbz.mono hb.size)
      have HB5 := Nu.hid (HB4.out.trans (hbu.mono HB4.out.size))
      have hz5 := Nat.le_trans hz4 hbu.size
      have HW5 := Nu.hid (HW4.out.trans (hbu.mono HW4.out.size))
      obtain ⟨H4, hH⟩ : ∃ H, H = T4.heap.size := ⟨_, rfl⟩
      rw [← hH] at HBG ⊢
      generalize T4.alloc (.cells #[.int .i64 N4, .slice a4 L4.length k4] 24) = U5 at HB5 HBG HW5 hz5 ⊢
      clear hH hbz hbu hb ho m0 m1 HCC
      have hkk := HKV.out U5 HB5.out
      obtain ⟨m0, m1⟩ := And.intro hkk.h0 hkk.h1
      clear hkk
      have HCC := Nu.hid (HC5.out U5 HB5.out)
      go_wp2_with (go_at_call 22; refine HCC.out.mono ?_; rintro e T5 ⟨v, rfl, ho, hb⟩; refine Hid.out ?_)
      refine Nu.hid ?_
      obtain ⟨a5, k5, rfl, -, -, -, -⟩ := ho.form
      try dsimp only at ho
      have HBG := Nu.hid (HBG.out.push hz5 hb ho N5)
      try dsimp only
      go_upto_region 18 with fail
      have hbz : Below T5.heap.size T5 (T5.alloc (.cells #[.int .i64 N5, .slice a5 L5.length k5] 24)) := (Below.refl _ _).alloc (Nat.le_refl _) _
      have hbu := hb.trans (hbz.mono hb.size)
      have HB6 := Nu.hid (HB5.out.trans (hbu.mono HB5.out.size))
      have hz6 := Nat.le_trans hz5 hbu.size
      have HW6 := Nu.hid (HW5.out.trans (hbu.mono HW5.out.size))
      obtain ⟨H5, hH⟩ : ∃ H, H = T5.heap.size := ⟨_, rfl⟩
      rw [← hH] at HBG ⊢
      generalize T5.alloc (.cells #[.int .i64 N5, .slice a5 L5.length k5] 24) = U6 at HB6 HBG HW6 hz6 ⊢
      clear hH hbz hbu hb ho m0 m1 HCC
      have hkk := HKV.out U6 HB6.out
      obtain ⟨m0, m1⟩ := And.intro hkk.h0 hkk.h1
      clear hkk
      have HCC := Nu.hid (HC6.out U6 HB6.out)
      go_wp2_with (go_at_call 15; refine HCC.out.mono ?_; rintro e T6 ⟨v, rfl, ho, hb⟩; refine Hid.out ?_)
      refine Nu.hid ?_
      obtain ⟨a6, k6, rfl, -, -, -, -⟩ := ho.form
      try dsimp only at ho
      have HBG := Nu.hid (HBG.out.push hz6 hb ho N6)
      try dsimp only
      go_upto_region 19 with fail
      have hbz : Below T6.heap.size T6 (T6.alloc (.cells #[.int .i64 N6, .slice a6 L6.length k6] 24)) := (Below.refl _ _).alloc (Nat.le_refl _) _
      have hbu := hb.trans (hbz.mono hb.size)
      have HB7 := Nu.hid (HB6.out.trans (hbu.mono HB6.out.size))
      have hz7 := Nat.le_trans hz6 hbu.size
      have HW7 := Nu.hid (HW6.out.trans (hbu.mono HW6.out.size))
      obtain ⟨H6, hH⟩ : ∃ H, H = T6.heap.size := ⟨_, rfl⟩
      rw [← hH] at HBG ⊢
      generalize T6.alloc (.cells #[.int .i64 N6, .slice a6 L6.length k6] 24) = U7 at HB7 HBG HW7 hz7 ⊢
      clear hH hbz hbu hb ho m0 m1 HCC
      have hkk := HKV.out U7 HB7.out
      obtain ⟨m0, m1⟩ := And.intro hkk.h0 hkk.h1
      clear hkk
      have HCC := Nu.hid (HC7.out U7 HB7.out)
      go_wp2_with (go_at_call 17; refine HCC.out.mono ?_; rintro e T7 ⟨v, rfl, ho, hb⟩; refine Hid.out ?_)
      refine Nu.hid ?_
      obtain ⟨a7, k7, rfl, -, -, -, -⟩ := ho.form
      try dsimp only at ho
      have HBG := Nu.hid (HBG.out.push hz7 hb ho N7)
      try dsimp only
      go_upto_region 20 with fail
      have hbz : Below T7.heap.size T7 (T7.alloc (.cells #[.int .i64 N7, .slice a7 L7.length k7] 24)) := (Below.refl _ _).alloc (Nat.le_refl _) _
      have hbu := hb.trans (hbz.mono hb.size)
      have HB8 := Nu.hid (HB7.out.trans (hbu.mono HB7.out.size))
      have hz8 := Nat.le_trans hz7 hbu.size
      have HW8 := Nu.hid (HW7.out.trans (hbu.mono HW7.out.size))
      obtain ⟨H7, hH⟩ : ∃ H, H = T7.heap.size := ⟨_, rfl⟩
      rw [← hH] at HBG ⊢
      generalize T7.alloc (.cells #[.int .i64 N7, .slice a7 L7.length k7] 24) = U8 at HB8 HBG HW8 hz8 ⊢
      clear hH hbz hbu hb ho m0 m1 HCC
      have hkk := HKV.out U8 HB8.out
      obtain ⟨m0, m1⟩ := And.intro hkk.h0 hkk.h1
      clear hkk
      have HCC := Nu.hid (HC8.out U8 HB8.out)
      go_wp2_with (go_at_call 26; refine HCC.out.mono ?_; rintro e T8 ⟨v, uu, rfl, ho, hoz, hvu, hb⟩; refine Hid.out ?_)
      refine Nu.hid ?_
      obtain ⟨a8, k8, rfl, -, -, -, -⟩ := ho.form
      try dsimp only at ho
      obtain ⟨za, zk, rfl, -, -⟩ := hoz.form
      have HBG := Nu.hid (HBG.out.bare hz8 hb ho hoz hvu N8)
      try dsimp only
      go_upto_region 21 with fail
      have hbz : Below T8.heap.size T8 (T8.alloc (.cells #[.int .i64 N8, .slice a8 L8.length k8] 24)) := (Below.refl _ _).alloc (Nat.le_refl _) _
      have hbu := hb.trans (hbz.mono hb.size)
      have HB9 := Nu.hid (HB8.out.trans (hbu.mono HB8.out.size))
      have hz9 := Nat.le_trans hz8 hbu.size
      have HW9 := Nu.hid (HW8.out.trans (hbu.mono HW8.out.size))
      obtain ⟨H8, hH⟩ : ∃ H, H = T8.heap.size := ⟨_, rfl⟩
      rw [← hH] at HBG ⊢
      generalize T8.alloc (.cells #[.int .i64 N8, .slice a8 L8.length k8] 24) = U9 at HB9 HBG HW9 hz9 ⊢
      clear hH hbz hbu hb ho m0 m1 HCC hoz hvu
      have hkk := HKV.out U9 HB9.out
      obtain ⟨m0, m1⟩ := And.intro hkk.h0 hkk.h1
      clear hkk
      have HCC := Nu.hid (HC9.out U9 HB9.out)
      go_wp2_with (go_at_call 24; refine HCC.out.mono ?_; rintro e T9 ⟨v, rfl, ho, hb⟩; refine Hid.out ?_)
      refine Nu.hid ?_
      obtain ⟨a9, k9, rfl, -, -, -, -⟩ := ho.form
      try dsimp only at ho
      have HBG := Nu.hid (HBG.out.push hz9 hb ho N9)
      try dsimp only
      go_upto_region 22 with fail
      have hbz : Below T9.heap.size T9 (T9.alloc (.cells #[.int .i64 N9, .slice a9 L9.length k9] 24)) := (Below.refl _ _).alloc (Nat.le_refl _) _
      have hbu := hb.trans (hbz.mono hb.size)
      have HB10 := Nu.hid (HB9.out.trans (hbu.mono HB9.out.size))
      have hz10 := Nat.le_trans hz9 hbu.size
      have HW10 := Nu.hid (HW9.out.trans (hbu.mono HW9.out.size))
      obtain ⟨H9, hH⟩ : ∃ H, H = T9.heap.size := ⟨_, rfl⟩
      rw [← hH] at HBG ⊢
      generalize T9.alloc (.cells #[.int .i64 N9, .slice a9 L9.length k9] 24) = U10 at HB10 HBG HW10 hz10 ⊢
      clear hH hbz hbu hb ho m0 m1 HCC
      go_cut [35, 36] from 146 to 155 (fun p r wr => ∃ (H : Nat) (a : Option Addr) (c : Nat), p = .pointer (some ⟨H, 0, none⟩) ∧ r = .int .i64 c10 ∧ OwnE wr U10.heap.size (.slice a L10.length c) L10 ∧ wr.heap[H]? = some (.cells #[.int .i64 N10, .slice a L10.length c] 24 (0, 0)) ∧ Below U10.heap.size U10 wr)
      case first =>
        go_wp2_with fail
        refine wp_region_any (by kernel_rfl) ?_
        have hbd : Below U10.heap.size U10 { U10 with drawn := U10.drawn + 1 } := (Below.refl _ _).drew
        refine AnyOrd.anyV (FrC U10 (.agg #[.int .i64 n, .slice (some ⟨gr, 0, none⟩) es.length rc]) (.pointer (some ⟨G0, 1, none⟩)) (.slice ao es.length ca) es.length (Ed.fr 0 es.length) N10 L10 c10) 359 rfl (by kernel_rfl) (fun ρ => FrC.start hbd) ?_ ?_
        · intro j o' Ls ρ W ev ho hLi hC haft hdc he1 he2 hec hef
          have hc : j = 0 ∨ j = 1 ∨ j = 2 ∨ j = 3 ∨ j = 4 ∨ j = 5 ∨ j = 6 ∨ j = 7 ∨ j = 8 ∨ j = 9 ∨ j = 10 ∨ j = 11 := by
            have : j < 12 := (Array.getElem?_eq_some_iff.1 ho).1
            omega
          have hno : ∀ u, (Ls u = true → Ls j = true) → Ls u = false := fun u h => by
            cases h' : Ls u with
            | false => rfl
            | true =>
              have := h h'
              rw [hLi] at this
              cases this
          have hlow : Below V.heap.size V W := HB10.out.trans (hC.low.mono HB10.out.size)
          have hkk := HKV.out W hlow
          have m0 := hkk.h0
          have m1 := hkk.h1
          have g1 := hkk.g1
          rcases hc with rfl | rfl | rfl | rfl | rfl | rfl | rfl | rfl | rfl | rfl | rfl | rfl <;> obtain rfl := Option.some.inj ho
          · have e1 : ev (.tmp 10) = .pointer (some ⟨M, 0, none⟩) := he2 10 (by kernel_rfl)
            exact AnyOrd.gives_value (v := .agg #[.int .i64 n, .slice (some ⟨gr, 0, none⟩) es.length rc]) (w' := W) (by simp [execOp, go_sem, e1, m0, m1]) hC.zero
          · have e1 : ev (.tmp 3) = .pointer (some ⟨G0, 0, none⟩) := he2 3 (by kernel_rfl)
            exact AnyOrd.gives_value (v := .pointer (some ⟨G0, 1, none⟩)) (w' := W) (by simp [execOp, go_sem, e1]) hC.one
          · have h1 : Ls 1 = true := haft ⟨1, .data⟩ (by simp) rfl
            have hC' := hC
            obtain ⟨_, _, _, _, _, _, _, S⟩ := hC
            have e1 := (he1 1 148 (by omega) rfl (by decide)).trans (S.v1 h1)
            exact AnyOrd.gives_value (v := .slice ao es.length ca) (w' := W) (by simp [execOp, go_sem, e1, g1]) hC'.two
          · have h2 : Ls 2 = true := haft ⟨2, .data⟩ (by simp) rfl
            have hC' := hC
            obtain ⟨_, _, _, _, _, _, _, S⟩ := hC
            have e1 := (he1 2 149 (by omega) rfl (by decide)).trans (S.v2 h2)
            exact AnyOrd.gives_value (v := .int .i64 (es.length : Int)) (w' := W) (by simp [execOp, go_sem, e1]) hC'.three
          · have h3 : Ls 3 = true := haft ⟨3, .data⟩ (by simp) rfl
            have hC' := hC
            obtain ⟨_, _, _, _, _, _, _, S⟩ := hC
            have e1 := (he1 3 150 (by omega) rfl (by decide)).trans (S.v3 h3)
            refine gives_enter (f := 31) (args := #[.int .i64 0, .int .i64 (es.length : Int)]) (by simp [execOp, go_sem, e1, hec, hef]) ?_
            refine (HFR.out W).mono ?_
            rintro e w' ⟨fa, fc, rfl, hof, hbf⟩
            exact ⟨_, rfl, hC'.four hbf (ownz_at hof)⟩
          · have h0 : Ls 0 = true := haft ⟨0, .data⟩ (by simp) rfl
            have h4 : Ls 4 = true := haft ⟨4, .data⟩ (by simp) rfl
            have hC' := hC
            obtain ⟨fa, fc, _, _, _, _, _, S⟩ := hC
            have e1 := (he1 0 147 (by omega) rfl (by decide)).trans (S.v0 h0)
            have e2 := (he1 4 151 (by omega) rfl (by decide)).trans (S.v4 h4)
            have n6 : Ls 6 = false := hno 6 fun h => hdc 6 _ rfl h ⟨5, .data⟩ (by simp) rfl
            have n7 : Ls 7 = false := hno 7 fun h => hdc 6 _ rfl (hdc 7 _ rfl h ⟨6, .data⟩ (by simp) rfl) ⟨5, .data⟩ (by simp) rfl
            have n10 : Ls 10 = false := hno 10 fun h => hdc 10 _ rfl h ⟨5, .chain⟩ (by simp) rfl
            refine gives_enter (f := 20) (args := #[.agg #[.int .i64 n, .slice (some ⟨gr, 0, none⟩) es.length rc], .slice fa es.length fc]) (by simp [execOp, go_sem, e1, e2, hef]) ?_
            refine (HC10.out W fa fc hlow (S.e4 h4 hLi)).mono ?_
            rintro e w' ⟨v, rfl, hov, hbw⟩
            try dsimp only at hov
            obtain ⟨va', vc', rfl, -, -, -, -⟩ := hov.form
            exact ⟨_, rfl, hC'.five hbw hov n6 n7 n10⟩
          · have h5 : Ls 5 = true := haft ⟨5, .data⟩ (by simp) rfl
            have e1 : ev (.tmp 152) = ρ 5 := he1 5 152 (by omega) rfl (by decide)
            exact AnyOrd.gives_value (v := ρ 5) (w' := W) (by simp [execOp, go_sem, e1]) (hC.six h5)
          · have h6 : Ls 6 = true := haft ⟨6, .data⟩ (by simp) rfl
            obtain ⟨va', vc', e2, hC6⟩ := hC.seven h6
            have e1 := (he1 6 146 (by omega) rfl (by decide)).trans e2
            exact AnyOrd.gives_value (v := .agg #[.int .i64 N10, .slice va' L10.length vc']) (w' := W) (by simp [execOp, go_sem, e1]) hC6
          · have h6 : Ls 6 = true := haft ⟨6, .data⟩ (by simp) rfl
            obtain ⟨va', vc', e2, hC7⟩ := hC.eight h6
            have e1 := (he1 6 146 (by omega) rfl (by decide)).trans e2
            exact AnyOrd.gives_value (v := .int .i64 c10) (w' := W) (by simp [execOp, go_sem, e1]) hC7
          · have n10 : Ls 10 = false := hno 10 fun h => hdc 10 _ rfl h ⟨9, .data⟩ (by simp) rfl
            exact AnyOrd.gives_value (v := .pointer (some ⟨W.heap.size, 0, none⟩)) (w' := W.alloc (.cells #[.int .i64 0, .slice none 0 0] 24)) (by simp [execOp, go_sem]) (hC.nine n10 _ _)
          · have h9 : Ls 9 = true := haft ⟨9, .data⟩ (by simp) rfl
            have h7 : Ls 7 = true := haft ⟨7, .data⟩ (by simp) rfl
            have h5 : Ls 5 = true := haft ⟨5, .chain⟩ (by simp) rfl
            obtain ⟨H, va', vc', x, y, e2, e3, hbox, hC9⟩ := hC.ten h5 h7 h9 undef
            have e4 := (he1 9 35 (by omega) rfl (by decide)).trans e2
            have e5 := (he1 7 153 (by omega) rfl (by decide)).trans e3
            obtain ⟨q0, q1, qf⟩ := pair_cells hbox
            have qf0 := qf 0
            have qf1 := qf 1
            exact AnyOrd.gives_skip (by simp [execOp, go_sem, e4, e5, q0, q1, qf0, qf1]) hC9
          · have h8 : Ls 8 = true := haft ⟨8, .data⟩ (by simp) rfl
            have e1 : ev (.tmp 154) = ρ 8 := he1 8 154 (by omega) rfl (by decide)
            exact AnyOrd.gives_value (v := ρ 8) (w' := W) (by simp [execOp, go_sem, e1]) (hC.eleven h8)
        · intro Ls ρ W hall hC
          obtain ⟨H, va', vc', e8, e10, hgo, hgb, hbw⟩ := hC.done hall
          simp only [AnyOrd.canon, AnyOrd.dst, Array.size, List.length_cons, List.length_nil]
          simp [Act.put, e8, e10]
          clear hall hC e8 e10
          go_wp2
          go_meet
          exact ⟨_, _, _, rfl, rfl, hgo, hgb, hbw⟩
      case rest =>
      obtain ⟨H10, a10, k10, rfl, rfl, ho, hbx, hb⟩ := hcut
      have HBG := Nu.hid (HBG.out.add hz10 hb ho hbx)
      have HB11 := Nu.hid (HB10.out.trans (hb.mono HB10.out.size))
      have hz11 := Nat.le_trans hz10 hb.size
      have HW11 := Nu.hid (HW10.out.trans (hb.mono HW10.out.size))
      clear hb ho hbx
      simp only [List.nil_append, List.cons_append] at HBG
      obtain ⟨p1, s1⟩ := HBG.out.cells (j := 0) rfl
      obtain ⟨p2, s2⟩ := HBG.out.cells (j := 1) rfl
      obtain ⟨p3, s3⟩ := HBG.out.cells (j := 2) rfl
      obtain ⟨p4, s4⟩ := HBG.out.cells (j := 3) rfl
      obtain ⟨p5, s5⟩ := HBG.out.cells (j := 4) rfl
      obtain ⟨p6, s6⟩ := HBG.out.cells (j := 5) rfl
      obtain ⟨p7, s7⟩ := HBG.out.cells (j := 6) rfl
      obtain ⟨p8, s8⟩ := HBG.out.cells (j := 7) rfl
      obtain ⟨p9, s9⟩ := HBG.out.cells (j := 8) rfl
      obtain ⟨p10, s10⟩ := HBG.out.cells (j := 9) rfl
      dsimp only at p1 s1 p2 s2 p3 s3 p4 s4 p5 s5 p6 s6 p7 s7 p8 s8 p9 s9 p10 s10
      have hbz : Below wc.heap.size wc (wc.alloc (.cells #[.int .i64 N1, .slice a1 L1.length k1, .int .i64 N2, .slice a2 L2.length k2, .int .i64 N3, .slice a3 L3.length k3, .int .i64 N4, .slice a4 L4.length k4, .int .i64 N5, .slice a5 L5.length k5, .int .i64 N6, .slice a6 L6.length k6, .int .i64 N7, .slice a7 L7.length k7, .int .i64 N8, .slice a8 L8.length k8, .int .i64 N9, .slice a9 L9.length k9, .int .i64 N10, .slice a10 L10.length k10] 24)) := (Below.refl _ _).alloc (Nat.le_refl _) _
      have hGz := HGR.out.later (HW11.out.trans (hbz.mono HW11.out.size))
      have hRz := HRZ.out.later (HW11.out.trans (hbz.mono HW11.out.size))
      have hBz := HBG.out.later hbz
      have hout := hGz.outer
      rw [HK.out] at hout
      have HOUT := Nu.hid hout
      have HGZ := Nu.hid hGz
      have HRZ2 := Nu.hid hRz
      have HBZ := Nu.hid hBz
      clear hbz hGz hRz hBz hout
      go_wp2_with (at_builtin; refine wpList_append_own_at _ rfl _ _ 56 rfl V.heap.size 24 iG (.agg #[.int .i64 0, .slice none 0 0]) 2 32 Try.underlying56 hiG hG0 hG1 hG2 rfl (by decide) _ _ _ rfl HOUT.out ⟨wc.heap.size, 0, none⟩ 10 10 [.int .i64 N1, .slice a1 L1.length k1, .int .i64 N2, .slice a2 L2.length k2, .int .i64 N3, .slice a3 L3.length k3, .int .i64 N4, .slice a4 L4.length k4, .int .i64 N5, .slice a5 L5.length k5, .int .i64 N6, .slice a6 L6.length k6, .int .i64 N7, .slice a7 L7.length k7, .int .i64 N8, .slice a8 L8.length k8, .int .i64 N9, .slice a9 L9.length k9, .int .i64 N10, .slice a10 L10.length k10] rfl rfl (World.news_of_block (heap_alloc_new _ _)) (by simp [Value.oneCell']) (by unfold maxLen; omega) (by omega) (by simp; omega) ?_; refine Hid.out ?_)
      refine Nu.hid ?_
      intro v' w3 hown3 hgrow3 _ hat3
      have hsz3 := hgrow3.size
      rw [World.size_alloc] at hsz3
      have holt : ∀ b, ((Value.slice va K vc).ownBlock = some b ∨ inG vs b) → b < U1.heap.size := fun b hb => (HGR.out.within hb).2
      have hllt : ∀ b, ((Value.slice ua J uc).ownBlock = some b ∨ inV lvs b) → b < U1.heap.size := fun b hb => (HRZ.out.within hb).2
      have hG3 := HBZ.out.grs HGZ.out hVU holt (by rw [HK.out]; simpa [flatG, Ent.pair] using hown3) hgrow3 (by simpa using hat3)
      have hR3 : RowsZ w3 V.heap.size (.slice ua J uc) lvs (rep [LB] k) := HRZ2.out.kept fun b hb hlt => hgrow3.block b hlt (fun e => HDIS.out b (.inl e.symm) hb)
      have hxl := HBZ.out.list
      have hxlt : ∀ b, (Value.slice za LB.length zk).ownBlock = some b → U1.heap.size ≤ b ∧ b < wc.heap.size + 1 := fun b hb => by
        have := World.ownsRow.lt hxl b hb
        rw [World.size_alloc] at this
        exact this
      have hx3 : OwnZ w3 V.heap.size (.slice za LB.length zk) LB := (hxl.lower hVU).same fun b hb hlt => hgrow3.block b hlt (fun e => by
        have h1 := holt b (.inl e.symm)
        have h2 := (hxlt b hb).1
        omega)
      have D3 : ∀ b, (v'.ownBlock = some b ∨ inG (vs ++ List.map Ent.pair _) b) → ¬ ((Value.slice ua J uc).ownBlock = some b ∨ inV lvs b) ∧ (Value.slice za LB.length zk).ownBlock ≠ some b := fun b hb => by
        have hold : ((Value.slice va K vc).ownBlock = some b ∨ inG vs b) → ¬ ((Value.slice ua J uc).ownBlock = some b ∨ inV lvs b) ∧ (Value.slice za LB.length zk).ownBlock ≠ some b := fun h => ⟨HDIS.out b h, fun e => by
          have h1 := holt b h
          have h2 := (hxlt b e).1
          omega⟩
        rcases hb with hb | ⟨u, p, hp, hpb⟩
        · rcases hat3 with e | e
          · exact hold (.inl (e.symm.trans hb))
          · have e2 := Option.some.inj (e.symm.trans hb)
            exact ⟨fun h => by have := hllt b h; omega, fun h => by have := (hxlt b h).2; omega⟩
        · by_cases hu : u < vs.length
          · rw [List.getElem?_append_left hu] at hp
            exact hold (.inr ⟨u, p, hp, hpb⟩)
          · rw [List.getElem?_append_right (by omega), List.getElem?_map] at hp
            obtain ⟨en, he, rfl⟩ := Option.map_eq_some_iff.1 hp
            have h1 := (World.ownsRow.lt (HBZ.out.own _ en he) b hpb).1
            exact ⟨fun h => by have := hllt b h; omega, HBZ.out.far _ en b he hpb⟩
      have hbel3 : Below V.heap.size V w3 := ((HB11.out.trans (((Below.refl wc.heap.size wc).alloc (Nat.le_refl _) _).mono HB11.out.size)).grown hgrow3 (by simp; omega) (fun j hj => (HGR.out.within (.inl hj)).1))
      have hout := hR3.outer
      rw [HJ.out] at hout
      have HOUT2 := Nu.hid hout
      have HG3 := Nu.hid hG3
      have HR3 := Nu.hid hR3
      have HX3 := Nu.hid hx3
      have HD3 := Nu.hid D3
      have HBL3 := Nu.hid hbel3
      have HXLT := Nu.hid hxlt
      have HLLT := Nu.hid hllt
      clear hown3 hgrow3 hat3 holt hllt hG3 hR3 hxl hxlt hx3 D3 hbel3 hout p1 s1 p2 s2 p3 s3 p4 s4 p5 s5 p6 s6 p7 s7 p8 s8 p9 s9 p10 s10 HBG HBZ HGZ HRZ2 HOUT
      go_wp2_with (at_builtin; refine wpList_append_own_at _ rfl _ _ 57 rfl V.heap.size 40 iR (.slice none 0 0) 1 24 Try.underlying57 hiR hR0 hR1 hR2 rfl (by decide) _ _ _ rfl (World.ownsRow.alloc HOUT2.out _) ⟨w3.heap.size, 0, none⟩ 1 1 [.slice za LB.length zk] rfl rfl (cell_one_new _ _ _) (by simp [Value.oneCell']) (by unfold maxLen; omega) (by omega) (by simp; omega) ?_; refine Hid.out ?_)
      refine Nu.hid ?_
      intro u' w4 hown4 hgrow4 _ hat4
      have hat4' : u'.ownBlock = (Value.slice ua J uc).ownBlock ∨ u'.ownBlock = some (w3.heap.size + 1) := by simpa using hat4
      have hR4 := HR3.out.grow (x := .slice za LB.length zk) (l := LB) (v' := u') HX3.out (fun u y b hy hyb e => by
        have h1 := HLLT.out b (.inr ⟨u, y, hy, hyb⟩)
        have h2 := (HXLT.out b e).1
        omega) (fun b hb e => by
        have h1 := HLLT.out b (.inl hb)
        have h2 := (HXLT.out b e).1
        omega) (by rw [HJ.out]; exact hown4) hgrow4 hat4'
      have hG4 := HG3.out.kept (w' := w4) fun b hb hlt => by
        rw [hgrow4.block b (by rw [World.size_alloc]; omega) (fun e => (HD3.out b hb).1 (.inl e.symm))]
        exact Below.heap_alloc w3 _ b hlt
      have hD4 : ∀ b, (v'.ownBlock = some b ∨ inG (vs ++ List.map Ent.pair _) b) → ¬ (u'.ownBlock = some b ∨ inV (lvs ++ [.slice za LB.length zk]) b) := fun b hb h => by
        obtain ⟨d1, d2⟩ := HD3.out b hb
        rcases h with h | ⟨u, y, hy, hyb⟩
        · rcases hat4' with e | e
          · exact d1 (.inl (e.symm.trans h))
          · have e2 := Option.some.inj (e.symm.trans h)
            have := (HG3.out.within hb).2
            omega
        · rcases last_of hy with ⟨_, h1⟩ | ⟨_, rfl⟩
          · exact d1 (.inr ⟨u, y, h1, hyb⟩)
          · exact d2 hyb
      have hbel4 : Below V.heap.size V w4 := ((HBL3.out.trans (((Below.refl w3.heap.size w3).alloc (Nat.le_refl _) _).mono HBL3.out.size)).grown hgrow4 (by simp; omega) (fun j hj => (HRZ.out.within (.inl hj)).1))
      have HG4 := Nu.hid hG4
      have HR4 := Nu.hid hR4
      have HD4 := Nu.hid hD4
      have HBL4 := Nu.hid hbel4
      clear hown4 hgrow4 hat4 hat4' hR4 hG4 hD4 hbel4
      go_wp2
      go_roundw
      case rel => exact ⟨k + 1, _, _, by omega, by go_num, HG4.out, by rw [List.map_append, HFST.out]; rfl, HR4.out, HD4.out, HBL4.out⟩
      case measure => simp [intOf]; omega
    · have hd : ¬ ((k : Int) < 4) := by omega
      obtain rfl : k = 4 := by omega
      obtain ⟨rfl, rfl⟩ : K = 40 ∧ J = 4 := by have := HKK.out; omega
      obtain ⟨ga, hga⟩ : ∃ g, va = some ⟨g, 0, none⟩ := by
        rcases HGR.out.outer.2 with ⟨e, h0⟩ | ⟨g, cap, cur, e, _⟩
        · cases e
        · cases e; exact ⟨g, rfl⟩
      obtain ⟨gl, hgl⟩ : ∃ g, ua = some ⟨g, 0, none⟩ := by
        rcases HRZ.out.outer.2 with ⟨e, h0⟩ | ⟨g, cap, cur, e, _⟩
        · cases e
        · cases e; exact ⟨g, rfl⟩
      subst hga
      subst hgl
      have hpick : ∀ (i : Nat) (Ni : Int) (Li : List (Int × Int)), (rep [L1, L2, L3, L4, L5, L6, L7, L8, L9, L10] 4)[i]? = some Li → (rep [N1, N2, N3, N4, N5, N6, N7, N8, N9, N10] 4)[i]? = some Ni → ∃ x, vs[i]? = some (Ni, x) := fun i Ni Li h1 h2 => by
        obtain ⟨⟨a, x⟩, hp⟩ := HGR.out.at' h1
        have h3 := congrArg (fun z => z[i]?) HFST.out
        simp only [List.getElem?_map, hp, h2, Option.map_some, Option.some.injEq] at h3
        exact ⟨x, by rw [hp, h3]⟩
      obtain ⟨x2', hx2⟩ := hpick 2 N3 L3 rfl rfl
      obtain ⟨x17, hx17⟩ := hpick 17 N8 L8 rfl rfl
      obtain ⟨y2, hy2⟩ := HRZ.out.at' (u := 2) (l := LB) rfl
      have k1 : ∀ z ∈ rep [L1, L2, L3, L4, L5, L6, L7, L8, L9, L10] 4, z.length ≤ 4194305 := fun z hz => HFEW.out z (rep_mem hz)
      have k2 : ∀ z ∈ rep [LB] 4, z.length ≤ 8388608 := fun z hz => by
        have := rep_mem hz
        simp only [List.mem_singleton] at this
        subst this
        omega
      have k3 : ∀ U, Below V.heap.size U1 U → KeepM G0 M gr gn rc nc n ao xo ca es l U := fun U hU => HKV.out U (HB1.out.trans hU)
      have k4 : Below w.heap.size w U1 := HBEL.out.trans (HB1.out.mono HBEL.out.size)
      have k5 : ∀ b, inG vs b → ¬ ((Value.slice (some ⟨gl, 0, none⟩) 4 uc).ownBlock = some b ∨ inV lvs b) := fun b hb => HDIS.out b (.inr hb)
      have k6 := HBEL.out.size
      repeat (first | exact mid HGR.out HK.out k1 hVU HRZ.out HJ.out k2 k5 HR3.out HR8.out HRB.out hx2 rfl hx17 rfl hy2 rfl k3 HM2.out HQ.out HQ2.out hel hql k4 k6 | go_step)
end
end lawEM
end Go.Proofs.Ytdkckdbpbdhoaaa
