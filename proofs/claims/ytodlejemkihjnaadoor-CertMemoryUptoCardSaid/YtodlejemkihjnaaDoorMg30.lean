import Derived.Test.YtodlejemkihjnaaDoorMg29
import Derived.Test.YtodlejemkihjnaaDoorMg19
/-
  CertMemory's tail: the lists round the vertices looked at again, then Apart.
-/
namespace Go.Proofs.YtodlejemkihjnaaDoor
open Go.ChangeShapes Go.WideShapes Go.ChangeAt Go.RowKit
namespace Cm
def spine17 : Nat → Code → Code
  | 0, c => c
  | n + 1, .seq _ d => spine17 n d
  | _, c => c

/-- What stands when all was written over: S what W's certificates are; from Y on. -/
structure Tl (b : Bool) (p q gc cc : Nat) (cs : List Ct) (va : Value) (ar : List (List Int)) (es : List (Int × Int)) (w : World) (WB XB : Nat) (Y Z V : World) : Prop where
  six : cs.length = 6
  all : Six ar es Y cs
  low : ∀ b, SA cs b ∨ SE cs b → b < XB
  pl : ar.length = p
  ql : es.length = q
  certs : Y.ownsRow WB 25 3 (.slice (some ⟨gc, 0, none⟩) 6 cc) 6 (flat b cs)
  far : ¬ SA cs gc ∧ ¬ SE cs gc
  put : Cw Y cs p (fun j t => j < 6 ∧ t < p) Z
  over : Wrote (SE cs) Z V
  lists : Y.ownsRow XB 39 1 va (6 * p) (cs.flatMap fun c => c.vs)
  base : ∀ (j : Nat) (c : Ct), cs[j]? = some c → w.heap.size ≤ c.lo
  below : Below w.heap.size w Y
  pp : p ≤ 1048576
  row : ∀ l ∈ ar, l.length ≤ 33554432

set_option maxRecDepth 100000 in
set_option maxHeartbeats 32000000 in
theorem rest21 {t0 t1 t2 t3 t4 t5 t6 t7 t8 t9 t10 t11 t12 t13 t14 t16 t18 t19 t20 t21 t22 t23 t24 t25 t26 t27 t28 t29 t30 t31 t32 t33 t34 t35 t36 t37 t38 t39 t40 t41 t42 t43 t44 t45 t46 t47 t48 t49 t50 t51 t52 t53 t54 t55 t56 t57 t58 t59 t60 t61 t62 t63 t64 t65 t66 t67 t68 t69 t70 t71 t72 t73 t74 t75 t76 t77 t78 t79 t80 t81 t82 t83 t84 t85 t86 t87 t88 t89 t90 t91 t92 t93 t94 t95 t96 t97 t98 t99 t100 t101 t102 t103 t104 t105 t106 t107 t108 t109 t110 t111 t112 t113 t114 t115 t116 t117 t118 t119 t120 t121 t122 t123 t124 t125 t126 t127 t128 t129 t130 t131 t132 t133 t134 t135 t136 t137 t138 t139 t140 t141 t142 t143 t144 t145 t146 t147 t148 t149 t150 t151 t152 t153 t154 t155 t156 t157 t158 t159 t160 t161 t162 t163 t164 t165 t166 t167 t168 t169 t170 t171 t172 t173 t174 t175 t176 t177 t178 t179 t180 t181 t182 t183 t184 t185 t186 t187 t188 t189 t190 t191 t192 t193 t194 t195 t196 t197 t198 t199 t200 t201 t202 t203 t204 t205 t206 t207 t208 t209 t210 t211 t212 t213 t214 t215 t216 t217 t218 t219 t220 t221 t222 t223 t224 t225 t226 t227 t228 t229 t230 t231 t232 t233 t234 t235 t236 t237 t238 t239 t240 t241 t242 t243 t244 t245 t246 t247 t248 t249 t250 t251 t252 t253 t254 t255 t256 t257 t258 t259 t260 t261 t262 t263 t264 t265 t266 t267 t268 t269 t270 t271 t272 t273 t274 t275 t276 t277 t278 t279 t280 t281 t282 t283 t284 t285 t286 t287 t288 t289 t290 t291 t292 t293 t294 t295 : Value} {b : Bool} {p q gc cc : Nat} {cs : List Ct} {va : Value} {ar : List (List Int)} {es : List (Int × Int)} {w : World} {WB XB : Nat} {Y Z V U U' : World}
    (h : Tl b p q gc cc cs va ar es w WB XB Y Z V) (hew : Wrote (SE cs) V U) (hur : Below U.heap.size U U') :
    Code.wp Tryd.prog (spine17 21 (Tryd.f3.body.getD .skip)) (bodyPost Tryd.prog Tryd.f3 fun e w' => e = .returned (.bool true) ∧ Below w.heap.size w w') { tmps := #[t0, t1, t2, t3, t4, t5, t6, t7, t8, t9, t10, t11, t12, t13, t14, va, t16, .slice (some ⟨gc, 0, none⟩) 6 cc, t18, t19, t20, t21, t22, t23, t24, t25, t26, t27, t28, t29, t30, t31, t32, t33, t34, t35, t36, t37, t38, t39, t40, t41, t42, t43, t44, t45, t46, t47, t48, t49, t50, t51, t52, t53, t54, t55, t56, t57, t58, t59, t60, t61, t62, t63, t64, t65, t66, t67, t68, t69, t70, t71, t72, t73, t74, t75, t76, t77, t78, t79, t80, t81, t82, t83, t84, t85, t86, t87, t88, t89, t90, t91, t92, t93, t94, t95, t96, t97, t98, t99, t100, t101, t102, t103, t104, t105, t106, t107, t108, t109, t110, t111, t112, t113, t114, t115, t116, t117, t118, t119, t120, t121, t122, t123, t124, t125, t126, t127, t128, t129, t130, t131, t132, t133, t134, t135, t136, t137, t138, t139, t140, t141, t142, t143, t144, t145, t146, t147, t148, t149, t150, t151, t152, t153, t154, t155, t156, t157, t158, t159, t160, t161, t162, t163, t164, t165, t166, t167, t168, t169, t170, t171, t172, t173, t174, t175, t176, t177, t178, t179, t180, t181, t182, t183, t184, t185, t186, t187, t188, t189, t190, t191, t192, t193, t194, t195, t196, t197, t198, t199, t200, t201, t202, t203, t204, t205, t206, t207, t208, t209, t210, t211, t212, t213, t214, t215, t216, t217, t218, t219, t220, t221, t222, t223, t224, t225, t226, t227, t228, t229, t230, t231, t232, t233, t234, t235, t236, t237, t238, t239, t240, t241, t242, t243, t244, t245, t246, t247, t248, t249, t250, t251, t252, t253, t254, t255, t256, t257, t258, t259, t260, t261, t262, t263, t264, t265, t266, t267, t268, t269, t270, t271, t272, t273, t274, t275, t276, t277, t278, t279, t280, t281, t282, t283, t284, t285, t286, t287, t288, t289, t290, t291, t292, t293, t294, t295], defers := [] } U' := by
  have HT := Nu.hid h
  have HEW := Nu.hid hew
  have HUR := Nu.hid hur
  have hYZ : Y.heap.size ≤ Z.heap.size := h.put.wrote.size
  have hZV : Z.heap.size ≤ V.heap.size := h.over.size
  have hpp := h.pp
  clear h hew hur
  simp only [Tryd.f3, Option.getD, spine17]
  go_wp2
  go_loopw [263] (fun c wr => ∃ k : Nat, k ≤ 6 ∧ c = .int .i64 k ∧ Below U.heap.size U wr) (fun c _ => 6 - (intOf c).toNat)
  case atStart => exact ⟨0, by omega, rfl, HUR.out⟩
  case round =>
    obtain ⟨k, hk, rfl, hb8⟩ := hrel
    have HB8' := Nu.hid hb8
    by_cases hlt6 : k < 6
    · have hlti : (k : Int) < 6 := by omega
      have hk0 : (0 : Int) ≤ (k : Int) := by omega
      obtain ⟨ct, hct⟩ : ∃ ct, cs[k]? = some ct := ⟨_, List.getElem?_eq_getElem (by have := HT.out.six; omega)⟩
      obtain ⟨f0, f1, f2⟩ := Cm.flat_at b cs k ct hct
      have hrowC : wr.ownsRow WB 25 3 (.slice (some ⟨gc, 0, none⟩) 6 cc) 6 (Cm.flat b cs) := own_below17 (row_same HT.out.certs fun g hg _ hl => by
        cases hg
        have hZ := Nat.lt_of_lt_of_le hl hYZ
        exact (HEW.out.block _ (Nat.lt_of_lt_of_le hZ hZV) HT.out.far.2).trans ((HT.out.over.block _ hZ HT.out.far.2).trans (HT.out.put.wrote.block _ hl HT.out.far.1))) hb8
      have cc0 : wr.cell? ⟨gc, k * 3, none⟩ = some (.bool b) := by have := World.ownsRow.cells hrowC (g := gc) rfl _ _ f0; rwa [addrE] at this
      have cc1 : wr.cell? ⟨gc, k * 3 + 1, none⟩ = some ct.av := by have := World.ownsRow.cells hrowC (g := gc) rfl _ _ f1; rwa [addrE] at this
      have cc2 : wr.cell? ⟨gc, k * 3 + 2, none⟩ = some ct.ev := by have := World.ownsRow.cells hrowC (g := gc) rfl _ _ f2; rwa [addrE] at this
      have hat := HT.out.all.at' k ct hct
      obtain ⟨xo, xc, hxo⟩ := row_shape hat.rows
      obtain ⟨yo, yc, hyo, -⟩ := hat.edges.form
      rw [HT.out.pl] at hxo
      rw [HT.out.ql] at hyo
      rw [hxo] at cc1
      rw [hyo] at cc2
      have hput : ∀ i, i < p → ∃ ga gb, xo = some ⟨ga, 0, none⟩ ∧ wr.cell? ⟨ga, i, none⟩ = some (.slice (some ⟨gb, 0, none⟩) 1 1) ∧ wr.cell? ⟨gb, 0, none⟩ = some (.int .i64 (k : Int)) := fun i hi => by
        obtain ⟨ga, gb, e1, e2, e3, -⟩ := Cm.Cw.after HT.out.all HT.out.put HT.out.over HEW.out hct (i := i) ⟨hlt6, hi⟩
        rw [hxo] at e1
        refine ⟨ga, gb, ?_, (hb8.cell (p := ⟨ga, i, none⟩) (block_lt_of_cell e2)).trans e2, cell_of_one ((hb8.block _ (lt_of_block e3)).trans e3)⟩
        rcases hat.rows.outer.2 with ⟨h0, -⟩ | ⟨g, c0, cur, h0, -⟩
        · rw [hxo] at h0; cases h0; cases e1
        · rw [hxo] at h0; cases h0; cases e1; rfl
      have HPUT := Nu.hid hput
      have hz6 := heap_alloc_new wr (.cells #[.bool b, .slice xo p xc, .slice yo q yc] 25)
      obtain ⟨u0, u1, u2, -⟩ := three_cells17 hz6
      have HZ6 := Nu.hid hz6
      have HBX8 := Nu.hid (box_below wr (.bool b) (.slice xo p xc) (.slice yo q yc))
      obtain ⟨w8', rfl⟩ : ∃ w8', w8' = wr := ⟨_, rfl⟩
      clear hb8 hct f0 f1 f2 hrowC hat hxo hyo hz6 hput
      go_wp2
      clear u0 u1 u2 cc0 cc1 cc2
      go_loopw [271] (fun c wx => ∃ i : Nat, i ≤ p ∧ c = .int .i64 i ∧ Below (w8'.alloc (.cells #[.bool b, .slice xo p xc, .slice yo q yc] 25)).heap.size (w8'.alloc (.cells #[.bool b, .slice xo p xc, .slice yo q yc] 25)) wx) (fun c _ => p - (intOf c).toNat)
      case atStart => exact ⟨0, Nat.zero_le _, rfl, Below.refl _ _⟩
      case round =>
        obtain ⟨i, hip, rfl, hb9⟩ := hrel
        have HB9' := Nu.hid hb9
        by_cases hil : i < p
        · have hili : (i : Int) < (p : Int) := by omega
          have hi0 : (0 : Int) ≤ (i : Int) := by omega
          obtain ⟨u0, u1, u2, -⟩ := three_cells17 ((hb9.block _ (lt_of_block HZ6.out)).trans HZ6.out)
          obtain ⟨ga, gb, rfl, d0', d1'⟩ := HPUT.out i hil
          have hbz := (Below.refl w8'.heap.size w8').alloc (Nat.le_refl _) (.cells #[.bool b, .slice (some ⟨ga, 0, none⟩) p xc, .slice yo q yc] 25)
          have hbw := hbz.trans (hb9.mono hbz.size)
          have d0 := (hbw.cell (p := ⟨ga, i, none⟩) (block_lt_of_cell d0')).trans d0'
          have d1 := (hbw.cell (p := ⟨gb, 0, none⟩) (block_lt_of_cell d1')).trans d1'
          clear hb9 d0' d1' hbz hbw
          go_wp2_with fail
          try go_quiet (fail)
          go_wp2
          go_roundw
          case rel => exact ⟨i + 1, by omega, by go_num, HB9'.out⟩
          case measure => simp [intOf]; omega
        · have hd2 : ¬ ((i : Int) < (p : Int)) := by omega
          clear hb9
          go_wp2
          go_roundw
          case rel => exact ⟨k + 1, by omega, by go_num, HB8'.out.trans ((HBX8.out.trans (HB9'.out.mono HBX8.out.size)).mono HB8'.out.size)⟩
          case measure => simp [intOf]; omega
    · obtain rfl : k = 6 := by omega
      have hYU : Y.heap.size ≤ U.heap.size := Nat.le_trans hYZ (Nat.le_trans hZV HEW.out.size)
      have hkeep : ∀ b, b < Y.heap.size → ¬ Cm.SA cs b → ¬ Cm.SE cs b → U.heap[b]? = Y.heap[b]? := fun b hb h1 h2 => by
        have hZ := Nat.lt_of_lt_of_le hb hYZ
        exact (HEW.out.block _ (Nat.lt_of_lt_of_le hZ hZV) h2).trans ((HT.out.over.block _ hZ h2).trans (HT.out.put.wrote.block _ hb h1))
      have h6 : 6 = cs.length := HT.out.six.symm
      have hall6 := HT.out.lists
      rw [h6] at hall6
      have hrowsA := (Cm.Six.rowsAll HT.out.all HT.out.low HT.out.pl hall6 hkeep).later hb8
      have hlow := Cm.Six.low (L := w.heap.size) HT.out.all HT.out.base
      have hlenA : (cs.flatMap fun _ => ar).length = 6 * p := by rw [flat_len17 (fun _ => ar) p cs fun _ _ => HT.out.pl, ← h6]
      have hfin : ∀ w', Wrote (inV (cs.flatMap fun c => c.vs)) wr w' → Below w.heap.size w w' := fun w' hw => by
        have hs := HT.out.below.size
        have b1 : Below w.heap.size Y Z := HT.out.put.wrote.below hs hlow.1
        have b2 : Below w.heap.size Z V := HT.out.over.below (Nat.le_trans hs hYZ) hlow.2.1
        have b3 : Below w.heap.size V U := HEW.out.below (Nat.le_trans hs (Nat.le_trans hYZ hZV)) hlow.2.1
        have b4 : Below w.heap.size U wr := hb8.mono (Nat.le_trans hs hYU)
        have b5 : Below w.heap.size wr w' := hw.below (Nat.le_trans hs (Nat.le_trans hYU hb8.size)) hlow.2.2
        exact HT.out.below.trans (b1.trans (b2.trans (b3.trans (b4.trans b5))))
      have HAP := Nu.hid (apart_upto _ _ _ 0 wr hrowsA (Nat.zero_le _) (by rw [hlenA]; omega) (fun l hl => by
        obtain ⟨c, -, hl'⟩ := List.mem_flatMap.1 hl
        exact HT.out.row l hl'))
      have HFIN := Nu.hid hfin
      clear hkeep hall6 hrowsA hlow hlenA hfin hb8 HB8'
      go_wp2_with (go_at_call 10; refine HAP.out.mono ?_; rintro e w7 ⟨rfl, hw7⟩; have HW7 := Nu.hid (HFIN.out _ hw7); clear hw7; refine Hid.out ?_)
      refine Nu.hid ?_
      go_wp2
      go_ret
      exact ⟨rfl, HW7.out⟩
end Cm
end Go.Proofs.YtodlejemkihjnaaDoor

/-
  CertMemory's tail: the edges looked at again.
-/
namespace Go.Proofs.YtodlejemkihjnaaDoor
open Go.ChangeShapes Go.WideShapes Go.ChangeAt Go.RowKit
namespace Cm
set_option maxRecDepth 100000 in
set_option maxHeartbeats 32000000 in
theorem rest20 {t0 t1 t2 t3 t4 t5 t6 t7 t8 t9 t10 t11 t12 t13 t14 t18 t19 t20 t21 t22 t23 t24 t25 t26 t27 t28 t29 t30 t32 t33 t34 t35 t36 t37 t38 t39 t40 t41 t42 t43 t44 t45 t46 t47 t48 t49 t50 t51 t52 t53 t54 t55 t56 t57 t58 t59 t60 t61 t62 t63 t64 t65 t66 t67 t68 t69 t70 t71 t72 t73 t74 t75 t76 t77 t78 t79 t80 t81 t82 t83 t84 t85 t86 t87 t88 t89 t90 t91 t92 t93 t94 t95 t96 t97 t98 t99 t100 t101 t102 t103 t104 t105 t106 t107 t108 t109 t110 t111 t112 t113 t114 t115 t116 t117 t118 t119 t120 t121 t122 t123 t124 t125 t126 t127 t128 t129 t130 t131 t132 t133 t134 t135 t136 t137 t138 t139 t140 t141 t142 t143 t144 t145 t146 t147 t148 t149 t150 t151 t152 t153 t154 t155 t156 t157 t158 t159 t160 t161 t162 t163 t164 t165 t166 t167 t168 t169 t170 t171 t172 t173 t174 t175 t176 t177 t178 t179 t180 t181 t182 t183 t184 t185 t186 t187 t188 t189 t190 t191 t192 t193 t194 t195 t196 t197 t198 t199 t200 t201 t202 t203 t204 t205 t206 t207 t208 t209 t210 t211 t212 t213 t214 t215 t216 t217 t218 t219 t220 t221 t222 t223 t224 t225 t226 t227 t228 t229 t230 t231 t232 t233 t234 t235 t236 t237 t238 t239 t240 t241 t242 t243 t244 t245 t246 t247 t248 t249 t250 t251 t252 t253 t254 t255 t256 t257 t258 t259 t260 t261 t262 t263 t264 t265 t266 t267 t268 t269 t270 t271 t272 t273 t274 t275 t276 t277 t278 t279 t280 t281 t282 t283 t284 t285 t286 t287 t288 t289 t290 t291 t292 t293 t294 t295 : Value} {b : Bool} {p q gc cc gE cE gG cG EB : Nat} {cs : List Ct} {va : Value} {gs : List Value} {ar : List (List Int)} {es : List (Int × Int)} {w : World} {WB XB : Nat} {Y Z V U : World}
    (h : Tl b p q gc cc cs va ar es w WB XB Y Z V) (hew : Ew V cs q (.slice (some ⟨gG, 0, none⟩) 6 cG) gs 6 U) (hre : U.ownsRow EB 23 1 (.slice (some ⟨gE, 0, none⟩) 6 cE) 6 (cs.map fun c => c.ev)) (hqq : q ≤ 4194304) :
    Code.wp Tryd.prog (spine17 20 (Tryd.f3.body.getD .skip)) (bodyPost Tryd.prog Tryd.f3 fun e w' => e = .returned (.bool true) ∧ Below w.heap.size w w') { tmps := #[t0, t1, t2, t3, t4, t5, t6, t7, t8, t9, t10, t11, t12, t13, t14, va, .slice (some ⟨gE, 0, none⟩) 6 cE, .slice (some ⟨gc, 0, none⟩) 6 cc, t18, t19, t20, t21, t22, t23, t24, t25, t26, t27, t28, t29, t30, .slice (some ⟨gG, 0, none⟩) 6 cG, t32, t33, t34, t35, t36, t37, t38, t39, t40, t41, t42, t43, t44, t45, t46, t47, t48, t49, t50, t51, t52, t53, t54, t55, t56, t57, t58, t59, t60, t61, t62, t63, t64, t65, t66, t67, t68, t69, t70, t71, t72, t73, t74, t75, t76, t77, t78, t79, t80, t81, t82, t83, t84, t85, t86, t87, t88, t89, t90, t91, t92, t93, t94, t95, t96, t97, t98, t99, t100, t101, t102, t103, t104, t105, t106, t107, t108, t109, t110, t111, t112, t113, t114, t115, t116, t117, t118, t119, t120, t121, t122, t123, t124, t125, t126, t127, t128, t129, t130, t131, t132, t133, t134, t135, t136, t137, t138, t139, t140, t141, t142, t143, t144, t145, t146, t147, t148, t149, t150, t151, t152, t153, t154, t155, t156, t157, t158, t159, t160, t161, t162, t163, t164, t165, t166, t167, t168, t169, t170, t171, t172, t173, t174, t175, t176, t177, t178, t179, t180, t181, t182, t183, t184, t185, t186, t187, t188, t189, t190, t191, t192, t193, t194, t195, t196, t197, t198, t199, t200, t201, t202, t203, t204, t205, t206, t207, t208, t209, t210, t211, t212, t213, t214, t215, t216, t217, t218, t219, t220, t221, t222, t223, t224, t225, t226, t227, t228, t229, t230, t231, t232, t233, t234, t235, t236, t237, t238, t239, t240, t241, t242, t243, t244, t245, t246, t247, t248, t249, t250, t251, t252, t253, t254, t255, t256, t257, t258, t259, t260, t261, t262, t263, t264, t265, t266, t267, t268, t269, t270, t271, t272, t273, t274, t275, t276, t277, t278, t279, t280, t281, t282, t283, t284, t285, t286, t287, t288, t289, t290, t291, t292, t293, t294, t295], defers := [] } U := by
  have HT := Nu.hid h
  have HEU := Nu.hid hew
  have HRE := Nu.hid hre
  clear h hew hre
  simp only [Tryd.f3, Option.getD, spine17]
  go_wp2
  go_loopw [229] (fun c wr => ∃ k : Nat, k ≤ 6 ∧ c = .int .i64 k ∧ Below U.heap.size U wr) (fun c _ => 6 - (intOf c).toNat)
  case atStart => exact ⟨0, by omega, rfl, Below.refl _ _⟩
  case round =>
    obtain ⟨k, hk, rfl, hb6⟩ := hrel
    have HB6' := Nu.hid hb6
    by_cases hlt6 : k < 6
    · have hlti : (k : Int) < 6 := by omega
      have hk0 : (0 : Int) ≤ (k : Int) := by omega
      have hwm : IntKind.i64.wrap (-(k : Int)) = -(k : Int) := by rw [IntKind.wrap_i64]; omega
      have hew := HEU.out.later hb6
      obtain ⟨ct, hct⟩ : ∃ ct, cs[k]? = some ct := ⟨_, List.getElem?_eq_getElem (by have := HT.out.six; omega)⟩
      have hrw := own_below17 HRE.out hb6
      have cx : wr.cell? ⟨gE, k, none⟩ = some ct.ev := by have := World.ownsRow.cells hrw (g := gE) rfl k ct.ev (by rw [List.getElem?_map, hct]; rfl); rwa [addrE] at this
      obtain ⟨yo, yc, hyo, -, -, hat, -⟩ := (hew.own k ct hct).form
      rw [Cm.ovr_length] at hyo
      rw [hyo] at cx
      obtain ⟨y, hy⟩ : ∃ y, gs[k]? = some y := ⟨_, List.getElem?_eq_getElem (by rw [hew.glen]; exact hlt6)⟩
      have cg : wr.cell? ⟨gG, k, none⟩ = some y := by have := World.ownsRow.cells hew.gout (g := gG) rfl k y hy; rwa [addrE] at this
      obtain ⟨zo, zc, hzo, -, -, hatz, -⟩ := (hew.grow k y hy).form
      rw [List.length_append, Cm.ovr_length] at hzo
      rw [hzo] at cg
      obtain ⟨bz, oz, rfl, cz0, cz1⟩ := hatz q ((k : Int), -77) (by rw [List.getElem?_append_right (by rw [Cm.ovr_length]; exact Nat.le_refl _), Cm.ovr_length, Nat.sub_self]; rfl)
      have HAT := Nu.hid hat
      have HCG := Nu.hid cg
      have HCZ := Nu.hid (And.intro cz0 cz1)
      clear hew hb6 hct hrw hyo hat hy cg hzo hatz cz0 cz1
      obtain ⟨w7', rfl⟩ : ∃ w7', w7' = wr := ⟨_, rfl⟩
      go_wp2
      clear cx
      go_loopw [236] (fun c wx => ∃ i : Nat, i ≤ q ∧ c = .int .i64 i ∧ Below w7'.heap.size w7' wx) (fun c _ => q - (intOf c).toNat)
      case atStart => exact ⟨0, Nat.zero_le _, rfl, Below.refl _ _⟩
      case round =>
        obtain ⟨i, hip, rfl, hb7⟩ := hrel
        have HB7' := Nu.hid hb7
        by_cases hil : i < q
        · have hili : (i : Int) < (q : Int) := by omega
          have hi0 : (0 : Int) ≤ (i : Int) := by omega
          obtain ⟨b', o', rfl, d0', d1'⟩ := HAT.out i (-(k : Int), (i : Int)) (Cm.ovr_at hil)
          have d0 := (hb7.cell (p := ⟨b', o' + i * 2, none⟩) (block_lt_of_cell d0')).trans d0'
          have d1 := (hb7.cell (p := ⟨b', o' + i * 2 + 1, none⟩) (block_lt_of_cell d1')).trans d1'
          dsimp only at d0 d1
          clear hb7 d0' d1'
          go_wp2_with fail
          try go_quiet (fail)
          go_wp2
          go_roundw
          case rel => exact ⟨i + 1, by omega, by go_num, HB7'.out⟩
          case measure => simp [intOf]; omega
        · have hd2 : ¬ ((i : Int) < (q : Int)) := by omega
          have cg := (hb7.cell (p := ⟨gG, k, none⟩) (block_lt_of_cell HCG.out)).trans HCG.out
          have cz0 := (hb7.cell (p := ⟨bz, oz + q * 2, none⟩) (block_lt_of_cell HCZ.out.1)).trans HCZ.out.1
          have cz1 := (hb7.cell (p := ⟨bz, oz + q * 2 + 1, none⟩) (block_lt_of_cell HCZ.out.2)).trans HCZ.out.2
          have q0 : (0 : Int) ≤ (q : Int) := by omega
          have q1 : (q : Int) < (q : Int) + 1 := by omega
          clear hb7
          go_wp2_with fail
          try go_quiet (fail)
          go_wp2
          go_roundw
          case rel => exact ⟨k + 1, by omega, by go_num, HB6'.out.trans (HB7'.out.mono HB6'.out.size)⟩
          case measure => simp [intOf]; omega
    · obtain rfl : k = 6 := by omega
      clear hb6
      repeat (first | exact rest21 HT.out HEU.out.wrote HB6'.out | go_step)
end Cm
end Go.Proofs.YtodlejemkihjnaaDoor
