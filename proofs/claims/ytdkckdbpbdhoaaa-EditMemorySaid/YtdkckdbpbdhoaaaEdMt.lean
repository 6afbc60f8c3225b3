/-
  The law EditMemory: behind its calls: what was answered is written over and grown, and the rest is looked at.
-/
import Derived.Test.YtdkckdbpbdhoaaaMgC
import Derived.Test.YtdkckdbpbdhoaaaEdSm
import Derived.Test.YtdkckdbpbdhoaaaMgD
import Derived.Test.YtdkckdbpbdhoaaaRoAl
import Derived.Test.YtdkckdbpbdhoaaaKin
import Derived.Test.YtdkckdbpbdhoaaaLwQ
namespace Go.Proofs.Ytdkckdbpbdhoaaa
open Go.ChangeShapes Go.WideShapes Go.ChangeAt Go.RowKit
namespace lawEM

/-- What is left of a code behind its first n statements. -/
def spine : Nat → Code → Code
  | 0, c => c
  | n + 1, .seq _ d => spine n d
  | _ + 1, c => c

/-- Written over, as the law does it. -/
def ovr (j m : Nat) : List (Int × Int) := (List.range m).map fun (i : Nat) => (-(j : Int), -(i : Int))
theorem ovr_at {j m i : Nat} (h : i < m) : (ovr j m)[i]? = some (-(j : Int), -(i : Int)) := by
  unfold ovr
  rw [List.getElem?_map, List.getElem?_range h]
  rfl
theorem ovr_length (j m : Nat) : (ovr j m).length = m := by simp [ovr]

/-- ls' are ls, the first k written over. -/
def OverE (ls ls' : List (List (Int × Int))) (k : Nat) : Prop := ls'.length = ls.length ∧ ∀ (j : Nat) (l : List (Int × Int)), ls[j]? = some l → ∃ l', ls'[j]? = some l' ∧ l'.length = l.length ∧ (j < k → l' = ovr j l.length)

structure KeepM (G0 M gr gn rc nc : Nat) (n : Int) (ao xo : Option Addr) (ca : Nat) (es : List (Int × Int)) (l : List Int) (U : World) : Prop where
  g0 : U.cell? ⟨G0, 0, none⟩ = some (.int .i64 n)
  g1 : U.cell? ⟨G0, 1, none⟩ = some (.slice ao es.length ca)
  h0 : U.cell? ⟨M, 0, none⟩ = some (.int .i64 n)
  h1 : U.cell? ⟨M, 1, none⟩ = some (.slice (some ⟨gr, 0, none⟩) es.length rc)
  eg : EdgesAt U ao es
  er : EdgesAt U (some ⟨gr, 0, none⟩) es
  r0 : U.cell? ⟨gr, es.length * 2, none⟩ = some (.int .i64 71)
  r1 : U.cell? ⟨gr, es.length * 2 + 1, none⟩ = some (.int .i64 72)
  r2 : U.cell? ⟨gr, (es.length + 1) * 2, none⟩ = some (.int .i64 73)
  r3 : U.cell? ⟨gr, (es.length + 1) * 2 + 1, none⟩ = some (.int .i64 74)
  en : IntsAt U (some ⟨gn, 0, none⟩) l
  ei : IntsAt U xo l
  n0 : U.cell? ⟨gn, l.length, none⟩ = some (.int .i64 (-91))
  n1 : U.cell? ⟨gn, l.length + 1, none⟩ = some (.int .i64 (-92))

section
variable {G0 M gr gn rc nc m2 q q2 B Bl : Nat} {n : Int} {ao xo aa la : Option Addr} {ca xc K ac Kl lc : Nat} {es : List (Int × Int)} {l : List Int} {vs : List (Int × Value)} {ls : List (List (Int × Int))} {lvs : List Value} {LL : List (List Int)} {w V : World}

set_option maxRecDepth 100000 in
set_option maxHeartbeats 32000000 in
theorem tail {t0 t2 t4 t5 t6 t7 t8 t15 t16 t17 t18 t19 t20 t21 t22 t23 t24 t25 t26 t27 t28 t29 t30 t31 t32 t33 t34 t35 t36 t37 t38 t39 t40 t41 t42 t43 t44 t45 t46 t47 t48 t49 t50 t51 t52 t53 t54 t55 t56 t57 t58 t59 t60 t61 t62 t63 t64 t65 t66 t67 t68 t69 t70 t71 t72 t73 t74 t75 t76 t77 t78 t79 t80 t81 t82 t83 t84 t85 t86 t87 t88 t89 t90 t91 t92 t93 t94 t95 t96 t97 t98 t99 t100 t101 t102 t103 t104 t105 t106 t107 t108 t109 t110 t111 t112 t113 t114 t115 t116 t117 t118 t119 t120 t121 t122 t123 t124 t125 t126 t127 t128 t129 t130 t131 t132 t133 t134 t135 t136 t137 t138 t139 t140 t141 t142 t143 t144 t145 t146 t147 t148 t149 t150 t151 t152 t153 t154 t155 t156 t157 t158 t159 t160 t161 t162 t163 t164 t165 t166 t167 t168 t169 t170 t171 t172 t173 t174 t175 t176 t177 t178 t179 t180 t181 t182 t183 t184 t185 t186 t187 t188 t189 t190 t191 t192 t193 t194 t195 t196 t197 t198 t199 t200 t201 t202 t203 t204 t205 t206 t207 t208 t209 t210 t211 t212 t213 t214 t215 t216 t217 t218 t219 t220 t221 t222 t223 t224 t225 t226 t227 t228 t229 t230 t231 t232 t233 t234 t235 t236 t237 t238 t239 t240 t241 t242 t243 t244 t245 t246 t247 t248 t249 t250 t251 t252 t253 t254 t255 t256 t257 t258 t259 t260 t261 t262 t263 t264 t265 t266 t267 t268 t269 t270 t271 t272 t273 t274 t275 t276 t277 t278 t279 t280 t281 t282 t283 t284 t285 t286 t287 t288 t289 t290 t291 t292 t293 t294 t295 t296 t297 t298 t299 t300 t301 t302 t303 t304 t305 t306 t307 t308 t309 t310 t311 t312 t313 t314 t315 t316 t317 t318 t319 t320 t321 t322 t323 t324 t325 t326 t327 t328 t329 t330 t331 t332 t333 t334 t335 t336 t337 t338 t339 t340 t341 t342 t343 t344 t345 t346 t347 t348 t349 t350 t351 t352 t353 t354 t355 t356 t357 t358 : Value} (ha : Grs V B (.slice aa K ac) vs ls) (hK : ls.length = K) (hKb : K ≤ 1000) (hll : ∀ k ∈ ls, k.length ≤ 4194305) (hB : B ≤ V.heap.size) (hBl : Bl ≤ V.heap.size)
    (hL : ∀ U, Wrote (inG vs) V U → RowsZ U Bl (.slice la Kl lc) lvs LL) (hLk : LL.length ≤ 1000) (hLl : ∀ k ∈ LL, k.length ≤ 8388608)
    (hKp : ∀ U, Wrote (fun b => inG vs b ∨ inV lvs b) V U → KeepM G0 M gr gn rc nc n ao xo ca es l U) (hm2 : m2 = es.length + 2) (hq : l.length = q) (hq2 : q2 = q + 2) (hel : es.length ≤ 8796093022000) (hql : q ≤ 17592186043904)
    (hbel : Below w.heap.size w V) (hlow : ∀ b, (inG vs b ∨ inV lvs b) → w.heap.size ≤ b) :
    Code.wp Try.prog (spine 13 (Try.f8.body.getD .skip)) (bodyPost Try.prog Try.f8 fun e w' => e = .returned (.bool true) ∧ Below w.heap.size w w') { tmps := #[t0, .slice xo q xc, t2, .pointer (some ⟨G0, 0, none⟩), t4, t5, t6, t7, t8, .slice (some ⟨gr, 0, none⟩) m2 rc, .pointer (some ⟨M, 0, none⟩), .slice (some ⟨gn, 0, none⟩) q2 nc, .slice (some ⟨gn, 0, none⟩) q nc, .slice aa K ac, .slice la Kl lc, t15, t16, t17, t18, t19, t20, t21, t22, t23, t24, t25, t26, t27, t28, t29, t30, t31, t32, t33, t34, t35, t36, t37, t38, t39, t40, t41, t42, t43, t44, t45, t46, t47, t48, t49, t50, t51, t52, t53, t54, t55, t56, t57, t58, t59, t60, t61, t62, t63, t64, t65, t66, t67, t68, t69, t70, t71, t72, t73, t74, t75, t76, t77, t78, t79, t80, t81, t82, t83, t84, t85, t86, t87, t88, t89, t90, t91, t92, t93, t94, t95, t96, t97, t98, t99, t100, t101, t102, t103, t104, t105, t106, t107, t108, t109, t110, t111, t112, t113, t114, t115, t116, t117, t118, t119, t120, t121, t122, t123, t124, t125, t126, t127, t128, t129, t130, t131, t132, t133, t134, t135, t136, t137, t138, t139, t140, t141, t142, t143, t144, t145, t146, t147, t148, t149, t150, t151, t152, t153, t154, t155, t156, t157, t158, t159, t160, t161, t162, t163, t164, t165, t166, t167, t168, t169, t170, t171, t172, t173, t174, t175, t176, t177, t178, t179, t180, t181, t182, t183, t184, t185, t186, t187, t188, t189, t190, t191, t192, t193, t194, t195, t196, t197, t198, t199, t200, t201, t202, t203, t204, t205, t206, t207, t208, t209, t210, t211, t212, t213, t214, t215, t216, t217, t218, t219, t220, t221, t222, t223, t224, t225, t226, t227, t228, t229, t230, t231, t232, t233, t234, t235, t236, t237, t238, t239, t240, t241, t242, t243, t244, t245, t246, t247, t248, t249, t250, t251, t252, t253, t254, t255, t256, t257, t258, t259, t260, t261, t262, t263, t264, t265, t266, t267, t268, t269, t270, t271, t272, t273, t274, t275, t276, t277, t278, t279, t280, t281, t282, t283, t284, t285, t286, t287, t288, t289, t290, t291, t292, t293, t294, t295, t296, t297, t298, t299, t300, t301, t302, t303, t304, t305, t306, t307, t308, t309, t310, t311, t312, t313, t314, t315, t316, t317, t318, t319, t320, t321, t322, t323, t324, t325, t326, t327, t328, t329, t330, t331, t332, t333, t334, t335, t336, t337, t338, t339, t340, t341, t342, t343, t344, t345, t346, t347, t348, t349, t350, t351, t352, t353, t354, t355, t356, t357, t358], defers := [] } V := by
  obtain ⟨i0, hi, hz0, hz1, hz2⟩ := info_parts Try.infoEdge
  obtain ⟨i1, hi1, hy0, hy1, hy2⟩ := info_parts Try.infoRowE
  have HLS := Nu.hid hL
  have HLK := Nu.hid hLk
  have HLL2 := Nu.hid hLl
  have HKP : Hid (∀ U, Wrote (fun b => inG vs b ∨ inV lvs b) V U → KeepM G0 M gr gn rc nc n ao xo ca es l U ∧ Below w.heap.size w U) := fun U hU => ⟨hKp U hU, hbel.trans (hU.below hbel.size hlow)⟩
  have HA := Nu.hid ha
  have HKA := Nu.hid hK
  have HAL := Nu.hid hll
  have HM2 := Nu.hid hm2
  have HQ := Nu.hid hq
  have HQ2 := Nu.hid hq2
  clear ha hK hll hL hLk hLl hKp hm2 hq hq2 hbel hlow
  simp only [Try.f8, Option.getD, spine]
  go_wp2
  -- written over
  go_loopw [208] (fun cv wr => ∃ (k : Nat) (ls' : List (List (Int × Int))), k ≤ K ∧ cv = .int .i64 (k : Int) ∧ Grs wr B (.slice aa K ac) vs ls' ∧ OverE ls ls' k ∧ Wrote (inG vs) V wr) (fun cv _ => K - (intOf cv).toNat)
  case atStart => exact ⟨0, ls, Nat.zero_le _, rfl, HA.out, ⟨rfl, fun j l hl => ⟨l, hl, rfl, fun h => by omega⟩⟩, Wrote.refl _ _⟩
  case round =>
    obtain ⟨k, ls', hk, rfl, hrows, hov, hwr⟩ := hrel
    obtain ⟨w0, rfl⟩ : ∃ w0, w0 = wr := ⟨wr, rfl⟩
    have HOV := Nu.hid hov
    have HROWS := Nu.hid hrows
    have HWR := Nu.hid hwr
    have hwk : IntKind.i64.wrap ((k : Int) + 1) = (k : Int) + 1 := by rw [IntKind.wrap_i64]; omega
    by_cases hlt : k < K
    · have hlti : (k : Int) < (K : Int) := by omega
      have hk0 : (0 : Int) ≤ (k : Int) := by omega
      have hwm : IntKind.i64.wrap (-(k : Int)) = -(k : Int) := by rw [IntKind.wrap_i64]; omega
      obtain ⟨z, hz⟩ : ∃ z, ls[k]? = some z := ⟨_, List.getElem?_eq_getElem (by rw [HKA.out]; exact hlt)⟩
      obtain ⟨z', hz', hzz', -⟩ := hov.2 k z hz
      obtain ⟨⟨nk, x⟩, hx⟩ := hrows.at' hz'
      obtain ⟨g, gc, hvg, -, cx⟩ := hrows.look hx
      obtain ⟨xa, xk, hxe, -, -, -, -⟩ := (hrows.row k _ z' hx hz').form
      have hlen : ls'.length = K := by rw [hov.1, HKA.out]
      rw [hlen] at hvg
      have hvo : aa = some ⟨g, 0, none⟩ := by cases hvg; rfl
      dsimp only at hxe cx
      obtain ⟨p, hp⟩ : ∃ p, z'.length = p := ⟨_, rfl⟩
      rw [hp] at hxe
      have hpl : p ≤ 4194305 := by rw [← hp, hzz']; exact HAL.out z (List.mem_of_getElem? hz)
      subst hxe
      have HX := Nu.hid hx
      have HZ := Nu.hid hz
      have HZ' := Nu.hid hz'
      have HP := Nu.hid hp
      have HPL : Hid (z.length = p) := hzz'.symm.trans hp
      have HLEN := Nu.hid hlen
      clear hrows hov hwr hx hz hz' hzz' hp hlen hvg
      subst hvo
      go_wp2
      clear cx
      go_loopw [217] (fun cv wx => ∃ (i : Nat) (f : List (Int × Int)), i ≤ p ∧ cv = .int .i64 (i : Int) ∧ f.length = p ∧ (∀ t, t < i → f[t]? = some (-(k : Int), -(t : Int))) ∧ Grs wx B (.slice (some ⟨g, 0, none⟩) K ac) vs (ls'.set k f) ∧ Wrote (inG vs) V wx) (fun cv _ => p - (intOf cv).toNat)
      case atStart =>
        refine ⟨0, z', Nat.zero_le _, rfl, HP.out, fun t ht => by omega, ?_, HWR.out⟩
        have e : ls'.set k z' = ls' := by
          refine List.ext_getElem? fun j => ?_
          rw [List.getElem?_set]
          by_cases e : k = j
          · subst e
            rw [if_pos rfl, if_pos (by rw [HLEN.out]; exact hlt), HZ'.out]
          · rw [if_neg e]
        rw [e]
        exact HROWS.out
      case round =>
        obtain ⟨i, f, hip, rfl, hf, hft, hrx, hwx⟩ := hrel
        have HRX := Nu.hid hrx
        have HWX := Nu.hid hwx
        have HF := Nu.hid hf
        have HFT := Nu.hid hft
        have hwi : IntKind.i64.wrap ((i : Int) + 1) = (i : Int) + 1 := by rw [IntKind.wrap_i64]; omega
        by_cases hil : i < p
        · have hili : (i : Int) < (p : Int) := by omega
          have hi0 : (0 : Int) ≤ (i : Int) := by omega
          have hwn : IntKind.i64.wrap (-(i : Int)) = -(i : Int) := by rw [IntKind.wrap_i64]; omega
          obtain ⟨gx, hgx⟩ : ∃ gx, xa = some ⟨gx, 0, none⟩ := by
            have := hrx.row k _ f HX.out (by rw [List.getElem?_set, if_pos rfl, if_pos (by rw [HLEN.out]; exact hlt)])
            rcases this.2 with ⟨h', h0⟩ | ⟨g', c', cur, e', _⟩
            · omega
            · cases e'; exact ⟨g', rfl⟩
          subst hgx
          obtain ⟨g2, c2, hvg2, -, cx⟩ := hrx.look HX.out
          rw [List.length_set, HLEN.out] at hvg2
          cases hvg2
          dsimp only at cx
          obtain ⟨⟨y0, cy0⟩, fy0, ⟨y1, cy1⟩, fy1, hrw, -⟩ := hrx.write HX.out (by rw [List.getElem?_set, if_pos rfl, if_pos (by rw [HLEN.out]; exact hlt)]) hf hil (-(k : Int), -(i : Int))
          dsimp only at cy1 fy1 hrw
          have HRW := Nu.hid hrw
          have HWW := Nu.hid ((hwx.setCell (b := gx) (i := i * 2) ⟨k, _, HX.out, rfl⟩ (.int .i64 (-(k : Int)))).setCell (b := gx) (i := i * 2 + 1) ⟨k, _, HX.out, rfl⟩ (.int .i64 (-(i : Int))))
          clear hf hft hrx hwx hrw
          go_wp2
          go_roundw
          case rel =>
            refine ⟨i + 1, f.set i (-(k : Int), -(i : Int)), by omega, by go_num, by rw [List.length_set]; exact HF.out, fun t ht => ?_, ?_, HWW.out⟩
            · rw [List.getElem?_set]
              by_cases e : i = t
              · rw [if_pos e, if_pos (by rw [HF.out]; exact hil), e]
              · rw [if_neg e]; exact HFT.out t (by omega)
            · have := HRW.out
              rw [List.set_set] at this
              exact this
          case measure => simp [intOf]; omega
        · have hd2 : ¬ ((i : Int) < (p : Int)) := by omega
          have hqr : f = ovr k z.length := by
            refine List.ext_getElem? fun t => ?_
            rw [HPL.out]
            by_cases ht : t < p
            · rw [ovr_at ht]; exact hft t (by omega)
            · rw [List.getElem?_eq_none (by omega), List.getElem?_eq_none (by rw [ovr_length]; omega)]
          have HQR := Nu.hid hqr
          clear hf hft hrx hwx hqr
          go_wp2
          go_roundw
          case rel =>
            refine ⟨k + 1, _, by omega, by go_num, HRX.out, ⟨by rw [List.length_set]; exact HOV.out.1, fun j b hb => ?_⟩, HWX.out⟩
            rw [List.getElem?_set]
            by_cases e : k = j
            · subst e
              rw [HZ.out] at hb
              cases hb
              exact ⟨f, by rw [if_pos rfl, if_pos (by rw [HLEN.out]; exact hlt)], by rw [HF.out, HPL.out], fun _ => HQR.out⟩
            · rw [if_neg e]
              obtain ⟨b', h1, h2, h3⟩ := HOV.out.2 j b hb
              exact ⟨b', h1, h2, fun hj => h3 (by omega)⟩
          case measure => simp [intOf]; omega
    · have hd : ¬ ((k : Int) < (K : Int)) := by omega
      obtain rfl : k = K := by omega
      have HN' : Hid (ls'.length = k) := hov.1.trans HKA.out
      have hllN : ∀ (j : Nat) (l : List (Int × Int)), ls'[j]? = some l → l.length ≤ 4194305 ∧ l = ovr j l.length := fun j l' hl' => by
        have hjl := (List.getElem?_eq_some_iff.1 hl').1
        obtain ⟨z, hz⟩ : ∃ z, ls[j]? = some z := ⟨_, List.getElem?_eq_getElem (by rw [← hov.1]; exact hjl)⟩
        obtain ⟨l2, h1, h2, h3⟩ := hov.2 j z hz
        rw [hl'] at h1
        cases h1
        refine ⟨by rw [h2]; exact HAL.out z (List.mem_of_getElem? hz), ?_⟩
        rw [h2]
        exact h3 (by rw [HN'.out] at hjl; exact hjl)
      have HLN := Nu.hid hllN
      have HST := Nu.hid (BothE.start hrows hwr)
      have hBw : B ≤ w0.heap.size := Nat.le_trans hB hwr.size
      have hwS : V.heap.size ≤ w0.heap.size := hwr.size
      clear hrows hov hwr hllN
      go_wp2
      go_loopw [44, 236] (fun gv cv wr => ∃ (j : Nat) (gs : List Value), j ≤ k ∧ cv = .int .i64 (j : Int) ∧ BothE V B w0.heap.size (.slice aa k ac) vs ls' gv gs j wr) (fun _ cv _ => k - (intOf cv).toNat)
      case atStart => exact ⟨0, [], Nat.zero_le _, rfl, HST.out⟩
      case round =>
        obtain ⟨j, gs, hj, rfl, hbo⟩ := hrel
        obtain ⟨w1, rfl⟩ : ∃ w1, w1 = wr := ⟨wr, rfl⟩
        obtain ⟨go, gc, hgv⟩ := hbo.gshape
        subst hgv
        have HBO := Nu.hid hbo
        have hwj : IntKind.i64.wrap ((j : Int) + 1) = (j : Int) + 1 := by rw [IntKind.wrap_i64]; omega
        by_cases hjk : j < k
        · have hjki : (j : Int) < (k : Int) := by omega
          have hj0 : (0 : Int) ≤ (j : Int) := by omega
          obtain ⟨z, hz⟩ : ∃ z, ls'[j]? = some z := ⟨_, List.getElem?_eq_getElem (by rw [HN'.out]; exact hjk)⟩
          obtain ⟨⟨nj, x⟩, hx⟩ := hbo.all.at' hz
          obtain ⟨g, gc', hvg, -, cx⟩ := hbo.all.look hx
          rw [HN'.out] at hvg
          have hvo : aa = some ⟨g, 0, none⟩ := by cases hvg; rfl
          obtain ⟨xa, xk, hxe, -, -, -, -⟩ := (hbo.all.row j _ z hx hz).form
          dsimp only at hxe cx
          have hlL := (HLN.out j z hz).1
          have hrow0 := hbo.all.row j _ z hx hz
          unfold OwnE at hrow0
          obtain ⟨p, hp⟩ : ∃ p, z.length = p := ⟨_, rfl⟩
          dsimp only at hrow0
          rw [hp] at hxe hlL hrow0
          subst hxe
          have hgS : ∀ b, ((Value.slice go j gc).ownBlock = some b ∨ inL gs b) → b < w1.heap.size := fun b hb => hbo.lt hb
          have HGS := Nu.hid hgS
          have hS1 := hbo.sz
          have HX := Nu.hid hx
          have HZ := Nu.hid hz
          have HP := Nu.hid hp
          have HR0 := Nu.hid hrow0
          subst hvo
          clear hbo hx hz hp hvg hrow0 hgS
          go_wp2
          clear cx
          go_loopw [46, 47] (fun gw cv wx => ∃ (i : Nat) (yo : Option Addr) (yc : Nat) (ys : List Value), i ≤ 32 ∧ cv = .int .i64 (i : Int) ∧ gw = .slice yo (p + i) yc ∧ wx.ownsRow B 26 2 (.slice yo (p + i) yc) (p + i) (flatE z ++ ys) ∧ ((yo = xa ∧ yc = xk) ∨ ∃ g', yo = some ⟨g', 0, none⟩ ∧ w1.heap.size ≤ g') ∧ BothE V B w0.heap.size (.slice (some ⟨g, 0, none⟩) k ac) vs ls' (.slice go j gc) gs j wx ∧ w1.heap.size ≤ wx.heap.size) (fun _ cv _ => 32 - (intOf cv).toNat)
          case atStart => exact ⟨0, xa, xk, [], by omega, rfl, rfl, by rw [List.append_nil]; exact HR0.out, .inl ⟨rfl, rfl⟩, HBO.out, Nat.le_refl _⟩
          case round =>
            obtain ⟨i, yo, yc, ys, hi32, rfl, rfl, hown, hyo, hbx, hsx⟩ := hrel
            have HOWN := Nu.hid hown
            have HYO := Nu.hid hyo
            have HBX := Nu.hid hbx
            have hwi : IntKind.i64.wrap ((i : Int) + 1) = (i : Int) + 1 := by rw [IntKind.wrap_i64]; omega
            by_cases hi3 : i < 32
            · have hi3i : (i : Int) < 32 := by omega
              clear hown hyo hbx
              go_wp2_with (at_builtin; refine wpList_keepE rfl _ _ rfl B (p + i) yo yc _ 5 5 rfl (World.ownsRow.alloc HOWN.out _) ⟨wr.heap.size, 0, none⟩ rfl (new_two_e _ _ rfl _ _ _) (by omega) (by simp; omega) ?_; refine Hid.out ?_)
              refine Nu.hid ?_
              intro g2 c2 w2 hnew hold hgrow hblk hlt2
              have hnew' : w2.ownsRow B 26 2 (.slice (some ⟨g2, 0, none⟩) (p + (i + 1)) c2) (p + (i + 1)) (flatE z ++ (ys ++ [.int .i64 5, .int .i64 5])) := by
                exact hnew
              have hxrow : OwnE w2 B (.slice xa p xk) z := by
                unfold OwnE
                rw [HP.out]
                rcases HYO.out with ⟨rfl, rfl⟩ | ⟨g', rfl, hg'⟩
                · rcases HR0.out.2 with ⟨h', h0⟩ | ⟨gx, c', cur, e', _⟩
                  · have hl0 : z = [] := List.length_eq_zero_iff.1 (by rw [HP.out]; exact h0)
                    rw [h', hl0, h0]
                    exact World.ownsRow_nil _ _ _ _
                  · cases e'
                    exact own_prefixE hold (by rw [flatE_length, HP.out])
                · have hx2 := HBX.out.all.row j _ z HX.out HZ.out
                  have hx3 : OwnE w2 B (.slice xa p xk) z := hx2.same fun b hb hltb => by
                    rw [hgrow.block b (by rw [World.size_alloc]; omega) (fun e => ?_)]
                    · exact Below.heap_alloc wr _ b hltb
                    · have e3 : g' = b := by simpa [Value.ownBlock] using e.symm
                      have := HBX.out.old b (.inr ⟨j, _, HX.out, hb⟩)
                      omega
                  unfold OwnE at hx3
                  rw [HP.out] at hx3
                  exact hx3
              have hbo2 := (HBX.out.later ((Below.refl wr.heap.size wr).alloc (Nat.le_refl _) (.cells #[.int .i64 5, .int .i64 5] 26))).after HX.out HZ.out hgrow (S1 := w1.heap.size) ⟨by omega, hS1⟩ HGS.out (fun b hb => by
                rcases HYO.out with ⟨rfl, rfl⟩ | ⟨g', rfl, hg'⟩
                · left
                  cases yo
                  · cases hb
                  · exact hb
                · have e3 : g' = b := by simpa [Value.ownBlock] using hb
                  exact .inr (by omega)) hxrow
              have hblk2 : ((some ⟨g2, 0, none⟩ : Option Addr) = xa ∧ c2 = xk) ∨ ∃ g', (some ⟨g2, 0, none⟩ : Option Addr) = some ⟨g', 0, none⟩ ∧ w1.heap.size ≤ g' := by
                rcases hblk with ⟨hb1, rfl⟩ | hb1
                · rcases HYO.out with ⟨rfl, rfl⟩ | ⟨g', rfl, hg'⟩
                  · left
                    rcases HOWN.out.2 with ⟨h', h0⟩ | ⟨gx, c', cur, e', _⟩
                    · rw [h'] at hb1; cases hb1
                    · cases e'
                      have e3 : gx = g2 := by simpa [Value.ownBlock] using hb1
                      subst e3
                      exact ⟨rfl, rfl⟩
                  · right
                    have e3 : g' = g2 := by simpa [Value.ownBlock] using hb1
                    subst e3
                    exact ⟨g', rfl, hg'⟩
                · right
                  exact ⟨g2, rfl, by omega⟩
              have HNEW := Nu.hid hnew'
              have HBO2 := Nu.hid hbo2
              have HBK := Nu.hid hblk2
              have hsz2 := hgrow.size
              rw [World.size_alloc] at hsz2
              clear hnew hold hgrow hblk hnew' hxrow hbo2 hblk2
              go_wp2
              go_roundw
              case rel => exact ⟨i + 1, some ⟨g2, 0, none⟩, c2, ys ++ [.int .i64 5, .int .i64 5], by omega, by go_num, rfl, HNEW.out, HBK.out, HBO2.out, by omega⟩
              case measure => simp [intOf]; omega
            · have hd3 : ¬ (i : Int) < 32 := by omega
              obtain ⟨w5, rfl⟩ : ∃ w5, w5 = wr := ⟨wr, rfl⟩
              have hr5 := hbx.all.row j _ z HX.out HZ.out
              unfold OwnE at hr5
              dsimp only at hr5
              rw [HP.out] at hr5
              have HR5 := Nu.hid hr5
              obtain ⟨g5, c5, e5, -, cx⟩ := hbx.all.look HX.out
              rw [HN'.out] at e5
              cases e5
              dsimp only at cx
              clear hown hyo hbx hr5
              go_wp2_with (at_builtin; refine wpList_keepE rfl _ _ rfl B p xa xk _ (j : Int) (-77) rfl (World.ownsRow.alloc HR5.out _) ⟨w5.heap.size, 0, none⟩ rfl (new_two_e _ _ rfl _ _ _) (by omega) (by simp; omega) ?_; refine Hid.out ?_)
              refine Nu.hid ?_
              intro g2 c2 w2 hnew hold hgrow hblk hlt2
              have hy : OwnE w2 B (.slice (some ⟨g2, 0, none⟩) (p + 1) c2) (z ++ [((j : Int), -77)]) := by
                unfold OwnE
                rw [List.length_append, flatE_snoc, HP.out]
                exact hnew
              have hbo2 := (HBX.out.later ((Below.refl w5.heap.size w5).alloc (Nat.le_refl _) (.cells #[.int .i64 (j : Int), .int .i64 (-77)] 26))).after HX.out HZ.out hgrow (S1 := w1.heap.size) ⟨by omega, hS1⟩ HGS.out (fun b hb => .inl hb) (by unfold OwnE; dsimp only; rw [HP.out]; exact hold)
              have hyb : ∀ b, (Value.slice (some ⟨g2, 0, none⟩) (p + 1) c2).ownBlock = some b → ((Value.slice xa p xk).ownBlock = some b ∨ (w0.heap.size ≤ b ∧ ¬ ((Value.slice go j gc).ownBlock = some b ∨ inL gs b))) := fun b hb => by
                have e3 : g2 = b := by simpa [Value.ownBlock] using hb
                subst e3
                rcases hblk with ⟨h1, _⟩ | h1
                · exact .inl h1
                · exact .inr ⟨by omega, fun h2 => by have := HGS.out g2 h2; omega⟩
              have HOUT := Nu.hid hbo2.gout
              have HY := Nu.hid hy
              have HBO2 := Nu.hid hbo2
              have HYB := Nu.hid hyb
              have hsz2 := hgrow.size
              rw [World.size_alloc] at hsz2
              clear hnew hold hgrow hblk hy hbo2 hyb cx
              go_wp2_with (at_builtin; refine wpList_append_own_at _ rfl _ _ 58 rfl B 22 i1 (.slice none 0 0) 1 24 Try.underlying58 hi1 hy0 hy1 hy2 rfl (by decide) _ _ _ rfl (World.ownsRow.alloc HOUT.out _) ⟨w2.heap.size, 0, none⟩ 1 1 [.slice (some ⟨g2, 0, none⟩) (p + 1) c2] rfl rfl (cell_one_new _ _ _) (by simp [Value.oneCell']) (by unfold maxLen; omega) (by omega) (by simp; omega) ?_; refine Hid.out ?_)
              refine Nu.hid ?_
              intro gv3 w3 hown3 hgrow3 _ hat3
              have hb3 := HBO2.out.next HX.out HZ.out HY.out HYB.out hown3 hgrow3 (by simpa using hat3) hwS
              have HB3 := Nu.hid hb3
              clear hown3 hgrow3 hat3 hb3
              go_wp2
              go_roundw
              case rel => exact ⟨j + 1, _, by omega, by go_num, HB3.out⟩
              case measure => simp [intOf]; omega
        · have hd4 : ¬ ((j : Int) < (k : Int)) := by omega
          obtain rfl : j = k := by omega
          clear hbo
          go_wp2
          go_loopw [267] (fun cv wr => ∃ t : Nat, t ≤ j ∧ cv = .int .i64 (t : Int) ∧ Below w1.heap.size w1 wr) (fun cv _ => j - (intOf cv).toNat)
          case atStart => exact ⟨0, Nat.zero_le _, rfl, Below.refl _ _⟩
          case round =>
            obtain ⟨t, ht, rfl, hb6⟩ := hrel
            obtain ⟨w6, rfl⟩ : ∃ w6, w6 = wr := ⟨wr, rfl⟩
            have HB6 := Nu.hid hb6
            have HBO6 := Nu.hid (HBO.out.later hb6)
            clear hb6
            have hwt : IntKind.i64.wrap ((t : Int) + 1) = (t : Int) + 1 := by rw [IntKind.wrap_i64]; omega
            by_cases htk : t < j
            · have htki : (t : Int) < (j : Int) := by omega
              have ht0 : (0 : Int) ≤ (t : Int) := by omega
              have hwm : IntKind.i64.wrap (-(t : Int)) = -(t : Int) := by rw [IntKind.wrap_i64]; omega
              obtain ⟨z, hz⟩ : ∃ z, ls'[t]? = some z := ⟨_, List.getElem?_eq_getElem (by rw [HN'.out]; exact htk)⟩
              obtain ⟨⟨nj, x⟩, hx⟩ := HBO6.out.all.at' hz
              obtain ⟨g, gc', hvg, -, cx⟩ := HBO6.out.all.look hx
              rw [HN'.out] at hvg
              have hvo : aa = some ⟨g, 0, none⟩ := by cases hvg; rfl
              obtain ⟨xa, xk, hxe, -, -, -, -⟩ := (HBO6.out.all.row t _ z hx hz).form
              have hrow0 := HBO6.out.all.row t _ z hx hz
              dsimp only at hxe cx hrow0
              obtain ⟨hlL, hov⟩ := HLN.out t z hz
              obtain ⟨p, hp⟩ : ∃ p, z.length = p := ⟨_, rfl⟩
              rw [hp] at hxe hlL hov
              subst hxe
              obtain ⟨y, hy⟩ : ∃ y, gs[t]? = some y := ⟨_, List.getElem?_eq_getElem (by rw [HBO6.out.glen]; exact htk)⟩
              obtain ⟨z2, hz2', hrow2⟩ := HBO6.out.grow t y hy
              rw [hz] at hz2'
              cases hz2'
              obtain ⟨gg, gcc, hgg⟩ : ∃ g c, go = some ⟨g, 0, none⟩ ∧ gc = c := by
                rcases HBO6.out.gout.2 with ⟨e, h0⟩ | ⟨g, cap, cur, e, _⟩
                · omega
                · cases e; exact ⟨g, _, rfl, rfl⟩
              obtain ⟨rfl, rfl⟩ := hgg
              have cg := World.ownsRow.cells HBO6.out.gout (g := gg) rfl t y hy
              rw [addrE] at cg
              obtain ⟨gy, cyy, rfl⟩ : ∃ g c, y = .slice (some ⟨g, 0, none⟩) (p + 1) c := by
                have h5 := hrow2
                unfold OwnE at h5
                rw [List.length_append, hp] at h5
                exact own_succ h5
              obtain ⟨cz0, cz1⟩ := ownE_cellAt hrow2 (i := p) (q := ((t : Int), -77)) (by rw [← hp]; simp)
              dsimp only at cz0 cz1
              have HR0 := Nu.hid hrow0
              have HOVz := Nu.hid hov
              have HP := Nu.hid hp
              have hpp : (p : Int) < ((p + 1 : Nat) : Int) := by omega
              have hp0 : (0 : Int) ≤ (p : Int) := by omega
              have eqP := eqEdge
              subst hvo
              clear hz hx hvg hrow0 hov hp hy hrow2
              go_wp2
              go_loopw [276] (fun cv wr => ∃ i : Nat, i ≤ p ∧ cv = .int .i64 (i : Int) ∧ wr = w6) (fun cv _ => p - (intOf cv).toNat)
              case atStart => exact ⟨0, Nat.zero_le _, rfl, rfl⟩
              case round =>
                obtain ⟨i, hip, rfl, hwr⟩ := hrel
                obtain rfl := hwr.symm
                clear hwr
                have hwi : IntKind.i64.wrap ((i : Int) + 1) = (i : Int) + 1 := by rw [IntKind.wrap_i64]; omega
                by_cases hil : i < p
                · have hili : (i : Int) < (p : Int) := by omega
                  have hi0 : (0 : Int) ≤ (i : Int) := by omega
                  have hwn : IntKind.i64.wrap (-(i : Int)) = -(i : Int) := by rw [IntKind.wrap_i64]; omega
                  obtain ⟨gx, hgx⟩ : ∃ gx, xa = some ⟨gx, 0, none⟩ := by
                    rcases HR0.out.2 with ⟨h', h0⟩ | ⟨g', c', cur, e', _⟩
                    · have := HP.out; omega
                    · cases e'; exact ⟨g', rfl⟩
                  subst hgx
                  obtain ⟨c0, c1⟩ := ownE_cellAt HR0.out (i := i) (q := (-(t : Int), -(i : Int))) (by rw [HOVz.out]; exact ovr_at hil)
                  dsimp only at c0 c1
                  go_wp2
                  go_roundw
                  case rel => exact ⟨i + 1, by omega, by go_num, by first | rfl | trivial⟩
                  case measure => simp [intOf]; omega
                · have hd2 : ¬ ((i : Int) < (p : Int)) := by omega
                  have d0 : ∀ D : LW w6, D.val.cell? ⟨gg, t, none⟩ = some (.slice (some ⟨gy, 0, none⟩) (p + 1) cyy) := fun D => (D.h.cell (p := ⟨gg, t, none⟩) (block_lt_of_cell cg)).trans cg
                  have d1 : ∀ D : LW w6, D.val.cell? ⟨g, t * 2 + 1, none⟩ = some (.slice xa p xk) := fun D => (D.h.cell (p := ⟨g, t * 2 + 1, none⟩) (block_lt_of_cell cx)).trans cx
                  have d2 : ∀ D : LW w6, D.val.cell? ⟨gy, p * 2, none⟩ = some (.int .i64 (t : Int)) := fun D => (D.h.cell (p := ⟨gy, p * 2, none⟩) (block_lt_of_cell cz0)).trans cz0
                  have d3 : ∀ D : LW w6, D.val.cell? ⟨gy, p * 2 + 1, none⟩ = some (.int .i64 (-77)) := fun D => (D.h.cell (p := ⟨gy, p * 2 + 1, none⟩) (block_lt_of_cell cz1)).trans cz1
                  have hne := LW.any w6
                  go_wp2_with fail
                  refine wp_region_lw (by kernel_rfl) (by kernel_rfl) ?_
                  repeat (go_big_quiet_step (fail))
                  refine wpQuiet_nil ?_
                  rintro _ ⟨E, rfl⟩
                  have HBE := Nu.hid (HB6.out.trans (E.h.mono HB6.out.size))
                  obtain ⟨WE, hWE⟩ : ∃ WE, WE = E.val := ⟨_, rfl⟩
                  rw [← hWE] at HBE ⊢
                  clear d0 d1 d2 d3 hne hWE cx cg cz0 cz1
                  go_wp2
                  go_roundw
                  case rel => exact ⟨t + 1, by omega, by go_num, HBE.out⟩
                  case measure => simp [intOf]; omega
            · have hd5 : ¬ ((t : Int) < (j : Int)) := by omega
              have hwr6 := HBO6.out.wrote
              have HKP6 := Nu.hid (HKP.out w6 (hwr6.mono fun b _ hb => .inl hb))
              have hrw6 := HLS.out w6 hwr6
              have HAP := Nu.hid (apart_any (.slice la Kl lc) lvs LL Bl w6 hrw6 (Nat.le_trans hBl hwr6.size) (by have := HLK.out; omega) HLL2.out)
              have HWR6 := Nu.hid hwr6
              have k0 := HKP6.out.1.g0
              have k1 := HKP6.out.1.g1
              clear hwr6 hrw6
              go_wp2_with (go_at_call 34; refine HAP.out.mono ?_; rintro e w7 ⟨rfl, hwr7⟩; refine Hid.out ?_)
              refine Nu.hid ?_
              have HWR7 : Hid (Wrote (fun b => inG vs b ∨ inV lvs b) V w7) := (HWR6.out.mono fun b _ hb => .inl hb).trans (hwr7.mono fun b _ hb => .inr hb)
              have HKU : Hid (∀ U, Below w7.heap.size w7 U → KeepM G0 M gr gn rc nc n ao xo ca es l U ∧ Below w.heap.size w U) := fun U hU => HKP.out U (HWR7.out.later hU)
              clear k0 k1 hwr7
              obtain ⟨kk, -⟩ := HKU.out w7 (Below.refl _ _)
              have k0 := kk.g0
              have k1 := kk.g1
              have k2 := kk.h0
              have k3 := kk.h1
              have HSM := Nu.hid (same_true n (some ⟨gr, 0, none⟩) ao rc ca es w7 kk.er kk.eg (by omega))
              clear kk
              go_wp2_with (go_at_call 32; refine HSM.out.mono ?_; rintro e w8 ⟨rfl, hb8⟩; refine Hid.out ?_)
              refine Nu.hid ?_
              clear k0 k1 k2 k3
              obtain ⟨kk, -⟩ := HKU.out w8 hb8
              have k0 := kk.r0
              have k1 := kk.r1
              have k2 := kk.r2
              have k3 := kk.r3
              have HAK := alike_any (some ⟨gn, 0, none⟩) xo nc xc q q l l w8 HQ.out HQ.out kk.en kk.ei (by omega)
              have hself : decide (l = l) = true := by simp
              rw [hself] at HAK
              have HAK := Nu.hid HAK
              have HB8 := Nu.hid hb8
              have eqP := eqEdge
              have hm2 := HM2.out
              have e0 : (0 : Int) ≤ (es.length : Int) := by omega
              have e1 : (es.length : Int) < (m2 : Int) := by omega
              have e2 : (0 : Int) ≤ (es.length : Int) + 1 := by omega
              have e3 : (es.length : Int) + 1 < (m2 : Int) := by omega
              have e4 : IntKind.i64.wrap ((es.length : Int) + 1) = (es.length : Int) + 1 := by rw [IntKind.wrap_i64]; omega
              clear kk hself hb8 hm2
              go_wp2_with (go_at_call 28; refine HAK.out.mono ?_; rintro e w9 ⟨rfl, hb9⟩; refine Hid.out ?_)
              refine Nu.hid ?_
              clear k0 k1 k2 k3
              obtain ⟨kk, hend⟩ := HKU.out w9 (HB8.out.trans (hb9.mono HB8.out.size))
              have k0 := kk.n0
              have k1 := kk.n1
              rw [HQ.out] at k0 k1
              have HEND := Nu.hid hend
              have hq2 := HQ2.out
              have f0 : (0 : Int) ≤ (q : Int) := by omega
              have f1 : (q : Int) < (q2 : Int) := by omega
              have f2 : (0 : Int) ≤ (q : Int) + 1 := by omega
              have f3 : (q : Int) + 1 < (q2 : Int) := by omega
              have f4 : IntKind.i64.wrap ((q : Int) + 1) = (q : Int) + 1 := by rw [IntKind.wrap_i64]; omega
              clear kk hend hb9 hq2
              go_wp2
              go_ret
              exact ⟨rfl, HEND.out⟩
end
end lawEM
end Go.Proofs.Ytdkckdbpbdhoaaa
