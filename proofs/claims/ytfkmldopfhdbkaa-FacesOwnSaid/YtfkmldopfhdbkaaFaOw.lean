/-
  The law FacesOwn: behind its calls: what was answered is written over, and the rest is looked at.
-/
import Derived.Test.YtfkmldopfhdbkaaFaXs
import Derived.Test.YtfkmldopfhdbkaaSiREq
import Derived.Test.YtfkmldopfhdbkaaRoRv
import Derived.Test.YtfkmldopfhdbkaaMg11
namespace Go.Proofs.Ytfkmldopfhdbkaa
open Go.ChangeShapes Go.WideShapes Go.ChangeAt Go.RowKit
namespace lawFOw

/-- What is left of a code behind its first n statements. -/
def spine : Nat → Code → Code
  | 0, c => c
  | n + 1, .seq _ d => spine n d
  | _ + 1, c => c

/-- ls' are ls, the first k written over. -/
def Over (ls ls' : List (List Int)) (k : Nat) : Prop := ls'.length = ls.length ∧ ∀ (j : Nat) (l : List Int), ls[j]? = some l → ∃ l', ls'[j]? = some l' ∧ l'.length = l.length ∧ (j < k → l' = List.replicate l.length (-100 - (j : Int)))
/-- As long as. -/
def Alike (ls ls' : List (List Int)) : Prop := ls'.length = ls.length ∧ ∀ (j : Nat) (l : List Int), ls[j]? = some l → ∃ l', ls'[j]? = some l' ∧ l'.length = l.length

theorem row_at {w : World} {B : Nat} {v : Value} {vs : List Value} {ls : List (List Int)} (h : RowsZ w B v vs ls) {k : Nat} {x : Value} (hx : vs[k]? = some x) : ∃ g c, v = .slice (some ⟨g, 0, none⟩) ls.length c ∧ w.cell? ⟨g, k, none⟩ = some x := by
  have hk := (List.getElem?_eq_some_iff.1 hx).1
  have hl := h.len
  rcases h.outer.2 with ⟨e, h0⟩ | ⟨g, cap, cur, e, _⟩
  · omega
  · refine ⟨g, cap, e, ?_⟩
    have := World.ownsRow.cells h.outer (g := g) (by rw [e]; rfl) k x hx
    have ea : ((⟨g, 0, none⟩ : Addr).add k) = ⟨g, k, none⟩ := by
      by_cases h0 : k = 0 <;> simp [Addr.add, h0]
    rwa [ea] at this

/-- One list's block has grown behind its end, or another one has come. -/
theorem RowsZ.grew {W w2 : World} {B S0 : Nat} {v : Value} {vs : List Value} {ls : List (List Int)} {k : Nat} {x : Value} {l : List Int} {r : Option Nat} (h : RowsZ W B v vs ls) (hx : vs[k]? = some x) (hl : ls[k]? = some l) (hg : W.grownBy w2 r) (hr : ∀ b, r = some b → x.ownBlock = some b ∨ S0 ≤ b)
    (hlt : ∀ b, (v.ownBlock = some b ∨ inV vs b) → b < S0 ∧ b < W.heap.size) (hrow : OwnZ w2 B x l) : RowsZ w2 B v vs ls := by
  have key : ∀ b, (v.ownBlock = some b ∨ inV vs b) → x.ownBlock ≠ some b → w2.heap[b]? = W.heap[b]? := fun b hb hne => hg.block b (hlt b hb).2 (fun e => by
    rcases hr b e.symm with h1 | h1
    · exact hne h1
    · have := (hlt b hb).1
      omega)
  refine ⟨h.len, row_same h.outer fun b hb _ _ => key b (.inl hb) (fun e => h.far k x b hx e hb), fun u y q hy hq => ?_, h.apart, h.far⟩
  by_cases e : u = k
  · subst e
    rw [hx] at hy
    cases hy
    rw [hl] at hq
    cases hq
    exact hrow
  · exact (h.row u y q hy hq).same fun b hb _ => key b (.inr ⟨u, y, hy, hb⟩) (fun e2 => h.apart k u x y b (fun e3 => e e3.symm) hx hy e2 hb)

structure Keep (G0 H Bb Bw Bd Be : Nat) (n : Int) (ao ho : Option Addr) (ca hc : Nat) (es : List (Int × Int)) (bo wo dd le : Option Addr) (K L bc wc dc lc : Nat) (bvs wvs : List Value) (A : List (List Int)) (Dl : List Int) (U : World) : Prop where
  g0 : U.cell? ⟨G0, 0, none⟩ = some (.int .i64 n)
  g1 : U.cell? ⟨G0, 1, none⟩ = some (.slice ao es.length ca)
  h0 : U.cell? ⟨H, 0, none⟩ = some (.int .i64 n)
  h1 : U.cell? ⟨H, 1, none⟩ = some (.slice ho es.length hc)
  eg : EdgesAt U ao es
  eh : EdgesAt U ho es
  kb : RowsZ U Bb (.slice bo K bc) bvs A
  kw : RowsZ U Bw (.slice wo K wc) wvs A
  kd : OwnZ U Bd (.slice dd L dc) Dl
  kl : OwnZ U Be (.slice le L lc) Dl

section
variable {G0 H Bb Bw Bd Be Ba Bc Bq : Nat} {n : Int} {ao ho : Option Addr} {ca hc : Nat} {es : List (Int × Int)} {bo wo dd le aa co qo : Option Addr} {K L Q bc wc dc lc ac cc qc : Nat} {bvs wvs avs qvs : List Value} {A Ws : List (List Int)} {Dl : List Int} {w V : World}

set_option maxRecDepth 100000 in
set_option maxHeartbeats 32000000 in
theorem tail {t0 t1 t3 t4 t5 t7 t8 t11 t13 t15 t17 t18 t19 t21 t23 t24 t25 t26 t27 t28 t29 t30 t31 t32 t33 t34 t35 t36 t37 t38 t39 t40 t41 t42 t43 t44 t45 t46 t47 t48 t49 t50 t51 t52 t53 t54 t55 t56 t57 t58 t59 t60 t61 t62 t63 t64 t65 t66 t67 t68 t69 t70 t71 t72 t73 t74 t75 t76 t77 t78 t79 t80 t81 t82 t83 t84 t85 t86 t87 t88 t89 t90 t91 t92 t93 t94 t95 t96 t97 t98 t99 t100 t101 t102 t103 t104 t105 t106 t107 t108 t109 t110 t111 t112 t113 t114 t115 t116 t117 t118 t119 t120 t121 t122 t123 t124 t125 t126 t127 t128 t129 t130 t131 t132 t133 t134 t135 t136 t137 t138 t139 t140 t141 t142 t143 t144 t145 t146 t147 t148 t149 t150 t151 t152 t153 t154 t155 t156 t157 t158 t159 t160 t161 t162 t163 t164 t165 t166 t167 t168 t169 t170 t171 t172 t173 t174 t175 t176 t177 t178 t179 t180 t181 t182 t183 t184 t185 t186 t187 t188 t189 t190 t191 t192 t193 t194 t195 t196 t197 t198 t199 t200 t201 t202 t203 t204 t205 t206 t207 t208 t209 t210 t211 t212 t213 t214 t215 t216 t217 t218 t219 t220 t221 t222 t223 t224 t225 t226 t227 t228 t229 t230 t231 t232 t233 t234 t235 t236 t237 t238 t239 t240 t241 t242 t243 t244 t245 t246 t247 t248 t249 t250 t251 t252 t253 t254 t255 t256 t257 t258 t259 : Value} (ha : RowsZ V Ba (.slice aa K ac) avs A) (hKA : A.length = K) (hAl : ∀ l ∈ A, l.length ≤ 8388608) (hKb : K ≤ 8388608) (hBa : Ba ≤ V.heap.size)
    (hcO : OwnZ V Bc (.slice co L cc) Dl) (hL : Dl.length = L) (hLb : L ≤ 8388608) (hq : RowsZ V Bq (.slice qo Q qc) qvs Ws) (hQ : Ws.length = Q) (hQb : Q ≤ 5864062014805) (hWl : ∀ l ∈ Ws, l.length ≤ 17592186043906)
    (hac : ∀ b, inV avs b → (Value.slice co L cc).ownBlock ≠ some b) (haq : ∀ b, inV avs b → ¬ ((Value.slice qo Q qc).ownBlock = some b ∨ inV qvs b)) (hcq : ∀ b, (Value.slice co L cc).ownBlock = some b → ¬ ((Value.slice qo Q qc).ownBlock = some b ∨ inV qvs b))
    (hKp : ∀ U, Wrote (fun b => inV avs b ∨ (Value.slice co L cc).ownBlock = some b ∨ inV qvs b) V U → Keep G0 H Bb Bw Bd Be n ao ho ca hc es bo wo dd le K L bc wc dc lc bvs wvs A Dl U) (hel : es.length ≤ 4611686018427387904)
    (hbel : Below w.heap.size w V) (hlow : ∀ b, (inV avs b ∨ (Value.slice co L cc).ownBlock = some b ∨ inV qvs b) → w.heap.size ≤ b) :
    Code.wp Try.prog (spine 15 (Try.f8.body.getD .skip)) (bodyPost Try.prog Try.f8 fun e w' => e = .returned (.bool true) ∧ Below w.heap.size w w') { tmps := #[t0, t1, .pointer (some ⟨G0, 0, none⟩), t3, t4, t5, .slice qo Q qc, t7, t8, .pointer (some ⟨H, 0, none⟩), .slice aa K ac, t11, .slice bo K bc, t13, .slice co L cc, t15, .slice dd L dc, t17, t18, t19, .slice wo K wc, t21, .slice le L lc, t23, t24, t25, t26, t27, t28, t29, t30, t31, t32, t33, t34, t35, t36, t37, t38, t39, t40, t41, t42, t43, t44, t45, t46, t47, t48, t49, t50, t51, t52, t53, t54, t55, t56, t57, t58, t59, t60, t61, t62, t63, t64, t65, t66, t67, t68, t69, t70, t71, t72, t73, t74, t75, t76, t77, t78, t79, t80, t81, t82, t83, t84, t85, t86, t87, t88, t89, t90, t91, t92, t93, t94, t95, t96, t97, t98, t99, t100, t101, t102, t103, t104, t105, t106, t107, t108, t109, t110, t111, t112, t113, t114, t115, t116, t117, t118, t119, t120, t121, t122, t123, t124, t125, t126, t127, t128, t129, t130, t131, t132, t133, t134, t135, t136, t137, t138, t139, t140, t141, t142, t143, t144, t145, t146, t147, t148, t149, t150, t151, t152, t153, t154, t155, t156, t157, t158, t159, t160, t161, t162, t163, t164, t165, t166, t167, t168, t169, t170, t171, t172, t173, t174, t175, t176, t177, t178, t179, t180, t181, t182, t183, t184, t185, t186, t187, t188, t189, t190, t191, t192, t193, t194, t195, t196, t197, t198, t199, t200, t201, t202, t203, t204, t205, t206, t207, t208, t209, t210, t211, t212, t213, t214, t215, t216, t217, t218, t219, t220, t221, t222, t223, t224, t225, t226, t227, t228, t229, t230, t231, t232, t233, t234, t235, t236, t237, t238, t239, t240, t241, t242, t243, t244, t245, t246, t247, t248, t249, t250, t251, t252, t253, t254, t255, t256, t257, t258, t259], defers := [] } V := by
  obtain ⟨S, hS⟩ : ∃ S : Nat → Prop, S = fun b => inV avs b ∨ (Value.slice co L cc).ownBlock = some b ∨ inV qvs b := ⟨_, rfl⟩
  have HKP : Hid (∀ U, Wrote S V U → Keep G0 H Bb Bw Bd Be n ao ho ca hc es bo wo dd le K L bc wc dc lc bvs wvs A Dl U ∧ Below w.heap.size w U) := fun U hU => by
    rw [hS] at hU
    exact ⟨hKp U hU, hbel.trans (hU.below hbel.size hlow)⟩
  have HSa : Hid (∀ b, inV avs b → S b) := fun b hb => by rw [hS]; exact .inl hb
  have HSc : Hid (∀ b, (Value.slice co L cc).ownBlock = some b → S b) := fun b hb => by rw [hS]; exact .inr (.inl hb)
  have HSq : Hid (∀ b, inV qvs b → S b) := fun b hb => by rw [hS]; exact .inr (.inr hb)
  have HC0 : Hid (∀ U, Wrote (inV avs) V U → OwnZ U Bc (.slice co L cc) Dl ∧ RowsZ U Bq (.slice qo Q qc) qvs Ws) := fun U hU => ⟨hcO.same fun b hb hlt => hU.block b hlt (fun h => hac b h hb), hq.kept fun b hb hlt => hU.block b hlt (fun h => haq b h hb)⟩
  have HCQ := Nu.hid hcq
  have HA := Nu.hid ha
  have HKA := Nu.hid hKA
  have HAL := Nu.hid hAl
  have HL := Nu.hid hL
  have HQ := Nu.hid hQ
  have HWL := Nu.hid hWl
  clear ha hKA hAl hcO hL hq hQ hWl hac haq hcq hKp hbel hlow hS
  simp only [Try.f8, Option.getD, spine]
  go_wp2
  -- a is written over
  go_loopw [154] (fun cv wr => ∃ (k : Nat) (ls' : List (List Int)), k ≤ K ∧ cv = .int .i64 (k : Int) ∧ RowsZ wr Ba (.slice aa K ac) avs ls' ∧ Over A ls' k ∧ Wrote (inV avs) V wr) (fun cv _ => K - (intOf cv).toNat)
  case atStart => exact ⟨0, A, Nat.zero_le _, rfl, HA.out, ⟨rfl, fun j l hl => ⟨l, hl, rfl, fun h => by omega⟩⟩, Wrote.refl _ _⟩
  case round =>
    obtain ⟨k, ls', hk, rfl, hrows, hov, hwr⟩ := hrel
    obtain ⟨w0, rfl⟩ : ∃ w0, w0 = wr := ⟨wr, rfl⟩
    have HOV := Nu.hid hov
    have HROWS := Nu.hid hrows
    have HWR := Nu.hid hwr
    have hwk : IntKind.i64.wrap ((k : Int) + 1) = (k : Int) + 1 := by rw [IntKind.wrap_i64]; omega
    by_cases hlt : k < K
    · have hlti : (k : Int) < (K : Int) := by omega
      have hk0 : (0 : Int) ≤ (k : Int) := by omega
      have hwm : IntKind.i64.wrap ((-100 : Int) - (k : Int)) = -100 - (k : Int) := by rw [IntKind.wrap_i64]; omega
      obtain ⟨l, hl⟩ : ∃ l, A[k]? = some l := ⟨_, List.getElem?_eq_getElem (by rw [HKA.out]; exact hlt)⟩
      obtain ⟨l', hl', hll', -⟩ := hov.2 k l hl
      obtain ⟨x, hx⟩ := hrows.at' hl'
      obtain ⟨g, gc, hvg, cx⟩ := row_at hrows hx
      obtain ⟨xo, xc, hxe, -, -⟩ := (hrows.row k x l' hx hl').form
      have hlen : ls'.length = K := by rw [hov.1, HKA.out]
      rw [hlen] at hvg
      have hvo : aa = some ⟨g, 0, none⟩ := by cases hvg; rfl
      obtain ⟨p, hp⟩ : ∃ p, l'.length = p := ⟨_, rfl⟩
      rw [hp] at hxe
      have hpl : p ≤ 8388608 := by rw [← hp, hll']; exact HAL.out l (List.mem_of_getElem? hl)
      subst hxe
      have HX := Nu.hid hx
      have HLk := Nu.hid hl
      have HL' := Nu.hid hl'
      have HP := Nu.hid hp
      have HPL : Hid (l.length = p) := hll'.symm.trans hp
      have HLEN := Nu.hid hlen
      clear hrows hov hwr hx hl hl' hll' hp hlen hvg
      subst hvo
      go_wp2
      clear cx
      go_loopw [162] (fun cv wx => ∃ (i : Nat) (q : List Int), i ≤ p ∧ cv = .int .i64 (i : Int) ∧ q.length = p ∧ (∀ t, t < i → q[t]? = some (-100 - (k : Int))) ∧ RowsZ wx Ba (.slice (some ⟨g, 0, none⟩) K ac) avs (ls'.set k q) ∧ Wrote (inV avs) V wx) (fun cv _ => p - (intOf cv).toNat)
      case atStart =>
        refine ⟨0, l', Nat.zero_le _, rfl, HP.out, fun t ht => by omega, ?_, HWR.out⟩
        have e : ls'.set k l' = ls' := by
          refine List.ext_getElem? fun j => ?_
          rw [List.getElem?_set]
          by_cases e : k = j
          · subst e
            rw [if_pos rfl, if_pos (by rw [HLEN.out]; exact hlt), HL'.out]
          · rw [if_neg e]
        rw [e]
        exact HROWS.out
      case round =>
        obtain ⟨i, q, hip, rfl, hq, hqt, hrx, hwx⟩ := hrel
        have HRX := Nu.hid hrx
        have HWX := Nu.hid hwx
        have HQq := Nu.hid hq
        have HQT := Nu.hid hqt
        have hwi : IntKind.i64.wrap ((i : Int) + 1) = (i : Int) + 1 := by rw [IntKind.wrap_i64]; omega
        by_cases hil : i < p
        · have hili : (i : Int) < (p : Int) := by omega
          have hi0 : (0 : Int) ≤ (i : Int) := by omega
          obtain ⟨gx, hgx⟩ : ∃ gx, xo = some ⟨gx, 0, none⟩ := by
            have := hrx.row k _ q HX.out (by rw [List.getElem?_set, if_pos rfl, if_pos (by rw [HLEN.out]; exact hlt)])
            rcases this.2 with ⟨h', h0⟩ | ⟨g', c', cur, e', _⟩
            · omega
            · cases e'; exact ⟨g', rfl⟩
          subst hgx
          obtain ⟨g2, c2, hvg2, cx⟩ := row_at hrx HX.out
          rw [List.length_set, HLEN.out] at hvg2
          cases hvg2
          obtain ⟨⟨y, cy⟩, fy, hrw, -⟩ := hrx.write HX.out (by rw [List.getElem?_set, if_pos rfl, if_pos (by rw [HLEN.out]; exact hlt)]) hq hil (-100 - (k : Int))
          have HRW := Nu.hid hrw
          have HWW := Nu.hid (hwx.setCell (b := gx) (i := i) ⟨k, _, HX.out, rfl⟩ (.int .i64 (-100 - (k : Int))))
          clear hq hqt hrx hwx hrw
          go_wp2
          go_roundw
          case rel =>
            refine ⟨i + 1, q.set i (-100 - (k : Int)), by omega, by go_num, by rw [List.length_set]; exact HQq.out, fun t ht => ?_, ?_, HWW.out⟩
            · rw [List.getElem?_set]
              by_cases e : i = t
              · rw [if_pos e, if_pos (by rw [HQq.out]; exact hil)]
              · rw [if_neg e]; exact HQT.out t (by omega)
            · have := HRW.out
              rw [List.set_set] at this
              exact this
          case measure => simp [intOf]; omega
        · have hd2 : ¬ ((i : Int) < (p : Int)) := by omega
          have hqr : q = List.replicate l.length (-100 - (k : Int)) := by
            refine List.ext_getElem? fun t => ?_
            rw [List.getElem?_replicate, HPL.out]
            by_cases ht : t < p
            · rw [if_pos ht]; exact hqt t (by omega)
            · rw [if_neg ht, List.getElem?_eq_none (by omega)]
          have HQR := Nu.hid hqr
          clear hq hqt hrx hwx hqr
          go_wp2
          go_roundw
          case rel =>
            refine ⟨k + 1, _, by omega, by go_num, HRX.out, ⟨by rw [List.length_set]; exact HOV.out.1, fun j b hb => ?_⟩, HWX.out⟩
            rw [List.getElem?_set]
            by_cases e : k = j
            · subst e
              rw [HLk.out] at hb
              cases hb
              exact ⟨q, by rw [if_pos rfl, if_pos (by rw [HLEN.out]; exact hlt)], by rw [HQq.out, HPL.out], fun _ => HQR.out⟩
            · rw [if_neg e]
              obtain ⟨b', h1, h2, h3⟩ := HOV.out.2 j b hb
              exact ⟨b', h1, h2, fun hj => h3 (by omega)⟩
          case measure => simp [intOf]; omega
    · have hd : ¬ ((k : Int) < (K : Int)) := by omega
      have hkK : k = K := by omega
      have HN' : Hid (ls'.length = K) := hov.1.trans HKA.out
      have HLN : Hid (∀ (j : Nat) (l : List Int), ls'[j]? = some l → l.length ≤ 8388608 ∧ l = List.replicate l.length (-100 - (j : Int))) := fun j l' hl' => by
        have hjl := (List.getElem?_eq_some_iff.1 hl').1
        obtain ⟨l, hl⟩ : ∃ l, A[j]? = some l := ⟨_, List.getElem?_eq_getElem (by rw [← hov.1]; exact hjl)⟩
        obtain ⟨l2, h1, h2, h3⟩ := hov.2 j l hl
        rw [hl'] at h1
        cases h1
        refine ⟨by rw [h2]; exact HAL.out l (List.mem_of_getElem? hl), ?_⟩
        rw [h2]
        exact h3 (by rw [HN'.out] at hjl; omega)
      have hBw : Ba ≤ w0.heap.size := Nat.le_trans hBa hwr.size
      clear hrows hov hwr hkK hd
      have hd : ¬ ((k : Int) < (K : Int)) := by omega
      go_wp2
      clear hd
      -- grown
      go_loopw [177] (fun cv wr => ∃ j : Nat, j ≤ K ∧ cv = .int .i64 (j : Int) ∧ RowsZ wr Ba (.slice aa K ac) avs ls' ∧ Wrote (inV avs) V wr) (fun cv _ => K - (intOf cv).toNat)
      case atStart => exact ⟨0, Nat.zero_le _, rfl, HROWS.out, HWR.out⟩
      case round =>
        obtain ⟨j, hj, rfl, hrj, hwj⟩ := hrel
        obtain ⟨w1, rfl⟩ : ∃ w1, w1 = wr := ⟨wr, rfl⟩
        have HRJ := Nu.hid hrj
        have HWJ := Nu.hid hwj
        have hB1 : Ba ≤ w1.heap.size := Nat.le_trans hBa hwj.size
        have hwj1 : IntKind.i64.wrap ((j : Int) + 1) = (j : Int) + 1 := by rw [IntKind.wrap_i64]; omega
        by_cases hjk : j < K
        · have hjki : (j : Int) < (K : Int) := by omega
          have hj0 : (0 : Int) ≤ (j : Int) := by omega
          obtain ⟨l, hl⟩ : ∃ l, ls'[j]? = some l := ⟨_, List.getElem?_eq_getElem (by rw [HN'.out]; exact hjk)⟩
          obtain ⟨x, hx⟩ := hrj.at' hl
          obtain ⟨g, gc', hvg, cx⟩ := row_at hrj hx
          rw [HN'.out] at hvg
          have hvo : aa = some ⟨g, 0, none⟩ := by cases hvg; rfl
          obtain ⟨xo, xc, hxe, -, -⟩ := (hrj.row j x l hx hl).form
          have hlL := (HLN.out j l hl).1
          have hrow0 := hrj.row j x l hx hl
          unfold OwnZ at hrow0
          obtain ⟨p, hp⟩ : ∃ p, l.length = p := ⟨_, rfl⟩
          rw [hp] at hxe hlL hrow0
          subst hxe
          have HX := Nu.hid hx
          have HLj := Nu.hid hl
          have HP := Nu.hid hp
          have HR0 := Nu.hid hrow0
          have HLT : Hid (∀ b, ((Value.slice aa K ac).ownBlock = some b ∨ inV avs b) → b < w1.heap.size) := fun b hb => by
            rcases hb with hb | ⟨u, z, hz, hzb⟩
            · exact (World.ownsRow.lt hrj.outer b hb).2
            · obtain ⟨q, hq⟩ := hrj.at hz
              exact (World.ownsRow.lt (hrj.row u z q hz hq) b hzb).2
          subst hvo
          clear hrj hwj hx hl hp hvg hrow0
          go_wp2
          clear cx
          go_loopw [27, 28] (fun gw cv wx => ∃ (i : Nat) (yo : Option Addr) (yc : Nat) (ys : List Value), i ≤ 20 ∧ cv = .int .i64 (i : Int) ∧ gw = .slice yo (p + i) yc ∧ ys.length = i ∧ wx.ownsRow Ba 3 1 (.slice yo (p + i) yc) (p + i) (l.map (Value.int .i64) ++ ys) ∧ ((yo = xo ∧ yc = xc) ∨ ∃ g', yo = some ⟨g', 0, none⟩ ∧ w1.heap.size ≤ g') ∧ RowsZ wx Ba (.slice (some ⟨g, 0, none⟩) K ac) avs ls' ∧ Wrote (inV avs) V wx ∧ w1.heap.size ≤ wx.heap.size) (fun _ cv _ => 20 - (intOf cv).toNat)
          case atStart => exact ⟨0, xo, xc, [], by omega, rfl, rfl, rfl, by rw [List.append_nil]; exact HR0.out, .inl ⟨rfl, rfl⟩, HRJ.out, HWJ.out, Nat.le_refl _⟩
          case round =>
            obtain ⟨i, yo, yc, ys, hi3, rfl, rfl, hys, hown, hyo, hbx, hwx, hsx⟩ := hrel
            have HOWN := Nu.hid hown
            have HYO := Nu.hid hyo
            have HBX := Nu.hid hbx
            have HWX := Nu.hid hwx
            have HYS := Nu.hid hys
            have hwi : IntKind.i64.wrap ((i : Int) + 1) = (i : Int) + 1 := by rw [IntKind.wrap_i64]; omega
            by_cases hi2 : i < 20
            · have hi3i : (i : Int) < 20 := by omega
              clear hown hyo hbx hys hwx
              go_wp2_with (at_builtin; refine wpList_append_keep rfl _ _ rfl Ba (p + i) yo yc _ (-5) rfl (World.ownsRow.alloc HOWN.out _) ⟨wr.heap.size, 0, none⟩ rfl (cell_one_new _ _ _) (by omega) (by simp; omega) ?_; refine Hid.out ?_)
              refine Nu.hid ?_
              intro g2 c2 w2 hnew hold hgrow hblk hlt2
              have hnew' : w2.ownsRow Ba 3 1 (.slice (some ⟨g2, 0, none⟩) (p + (i + 1)) c2) (p + (i + 1)) (l.map (Value.int .i64) ++ (ys ++ [.int .i64 (-5)])) := by
                exact hnew
              have hba : Below wr.heap.size wr (wr.alloc (.cells #[.int .i64 (-5)] 3)) := (Below.refl _ _).alloc (Nat.le_refl _) _
              have hR1 := HBX.out.later hba
              have hxrow : OwnZ w2 Ba (.slice xo p xc) l := by
                unfold OwnZ
                rw [HP.out]
                rcases HYO.out with ⟨rfl, rfl⟩ | ⟨g', rfl, hg'⟩
                · rcases HR0.out.2 with ⟨h', h0⟩ | ⟨gx, c', cur, e', _⟩
                  · have hl0 : l = [] := List.length_eq_zero_iff.1 (by rw [HP.out]; exact h0)
                    rw [h', hl0, h0]
                    exact World.ownsRow_nil _ _ _ _
                  · cases e'
                    exact own_prefix hold (by simp [HP.out])
                · have hx2 := hR1.row j _ l HX.out HLj.out
                  have hx3 : OwnZ w2 Ba (.slice xo p xc) l := hx2.same fun b hb hltb => hgrow.block b hltb (fun e => by
                    have e3 : g' = b := by simpa [Value.ownBlock] using e.symm
                    have := HLT.out b (.inr ⟨j, _, HX.out, hb⟩)
                    omega)
                  unfold OwnZ at hx3
                  rw [HP.out] at hx3
                  exact hx3
              have hblkr : ∀ b, (Value.slice yo (p + i) yc).ownBlock = some b → (Value.slice xo p xc).ownBlock = some b ∨ w1.heap.size ≤ b := fun b hb => by
                rcases HYO.out with ⟨rfl, rfl⟩ | ⟨g', rfl, hg'⟩
                · left
                  cases yo
                  · cases hb
                  · exact hb
                · have e3 : g' = b := by simpa [Value.ownBlock] using hb
                  exact .inr (by omega)
              have hR2 := RowsZ.grew hR1 HX.out HLj.out hgrow hblkr (fun b hb => ⟨HLT.out b hb, by have h1 := HLT.out b hb; rw [World.size_alloc]; omega⟩) hxrow
              have hsz2 := hgrow.size
              rw [World.size_alloc] at hsz2
              have hVs := HWJ.out.size
              have hW2 : Wrote (inV avs) V w2 := by
                have h1 := HWX.out.later hba
                refine ⟨hgrow.os.trans h1.os, hgrow.tape.trans h1.tape, hgrow.output.trans h1.output, Nat.le_trans h1.size hgrow.size, fun b hb hne => ?_⟩
                rw [hgrow.block b (Nat.lt_of_lt_of_le hb h1.size) (fun e => ?_)]
                · exact h1.block b hb hne
                · rcases hblkr b e.symm with h2 | h2
                  · exact hne ⟨j, _, HX.out, h2⟩
                  · omega
              have hblk2 : ((some ⟨g2, 0, none⟩ : Option Addr) = xo ∧ c2 = xc) ∨ ∃ g', (some ⟨g2, 0, none⟩ : Option Addr) = some ⟨g', 0, none⟩ ∧ w1.heap.size ≤ g' := by
                rcases hblk with ⟨hb1, rfl⟩ | hb1
                · rcases HYO.out with ⟨rfl, rfl⟩ | ⟨g', rfl, hg'⟩
                  · left
                    rcases HOWN.out.2 with ⟨h', h0⟩ | ⟨gx, c', cur, e', _⟩
                    · rw [h'] at hb1; cases hb1
                    · cases e'
                      have e3 : gx = g2 := by simpa [Value.ownBlock] using hb1
                      subst e3
                      exact ⟨rfl, rfl⟩
                  · right
                    have e3 : g' = g2 := by simpa [Value.ownBlock] using hb1
                    subst e3
                    exact ⟨g', rfl, hg'⟩
                · right
                  exact ⟨g2, rfl, by omega⟩
              have HNEW := Nu.hid hnew'
              have HR2 := Nu.hid hR2
              have HW2 := Nu.hid hW2
              have HBK := Nu.hid hblk2
              clear hnew hold hgrow hblk hnew' hxrow hR1 hR2 hW2 hblk2 hblkr hba
              go_wp2
              go_roundw
              case rel => exact ⟨i + 1, some ⟨g2, 0, none⟩, c2, ys ++ [.int .i64 (-5)], by omega, by go_num, rfl, by rw [List.length_append, HYS.out]; rfl, HNEW.out, HBK.out, HR2.out, HW2.out, by omega⟩
              case measure => simp [intOf]; omega
            · have hd3 : ¬ (i : Int) < 20 := by omega
              clear hown hyo hbx hys hwx
              go_wp2
              go_roundw
              case rel => exact ⟨j + 1, by omega, by go_num, HBX.out, HWX.out⟩
              case measure => simp [intOf]; omega
        · have hd4 : ¬ ((j : Int) < (K : Int)) := by omega
          clear hrj hwj
          go_wp2
          clear hd4
          -- looked at
          go_loopw [194] (fun cv wr => ∃ t : Nat, t ≤ K ∧ cv = .int .i64 (t : Int) ∧ wr = w1) (fun cv _ => K - (intOf cv).toNat)
          case atStart => exact ⟨0, Nat.zero_le _, rfl, rfl⟩
          case round =>
            obtain ⟨t, ht, rfl, hwr⟩ := hrel
            obtain rfl := hwr.symm
            clear hwr
            have hwt : IntKind.i64.wrap ((t : Int) + 1) = (t : Int) + 1 := by rw [IntKind.wrap_i64]; omega
            by_cases htk : t < K
            · have htki : (t : Int) < (K : Int) := by omega
              have ht0 : (0 : Int) ≤ (t : Int) := by omega
              have hwm : IntKind.i64.wrap ((-100 : Int) - (t : Int)) = -100 - (t : Int) := by rw [IntKind.wrap_i64]; omega
              have hne : ((-100 - (t : Int)) != (-100 - (t : Int))) = false := by simp
              obtain ⟨l, hl⟩ : ∃ l, ls'[t]? = some l := ⟨_, List.getElem?_eq_getElem (by rw [HN'.out]; exact htk)⟩
              obtain ⟨x, hx⟩ := HRJ.out.at' hl
              obtain ⟨g, gc', hvg, cx⟩ := row_at HRJ.out hx
              rw [HN'.out] at hvg
              have hvo : aa = some ⟨g, 0, none⟩ := by cases hvg; rfl
              obtain ⟨xo, xc, hxe, hxat, -⟩ := (HRJ.out.row t x l hx hl).form
              obtain ⟨p, hp⟩ : ∃ p, l.length = p := ⟨_, rfl⟩
              have hlL := HLN.out t l hl
              rw [hp] at hxe hlL
              have HLC : Hid (∀ i, i < p → ∃ b o : Nat, xo = some ⟨b, o, none⟩ ∧ w1.cell? ⟨b, o + i, none⟩ = some (.int .i64 (-100 - (t : Int)))) := fun i hip => by
                refine hxat i _ ?_
                rw [hlL.2, List.getElem?_replicate, if_pos hip]
              have hpl := hlL.1
              subst hxe
              subst hvo
              clear hl hx hvg hxat hlL hp
              go_wp2
              go_loopw [202] (fun cv wr => ∃ i : Nat, i ≤ p ∧ cv = .int .i64 (i : Int) ∧ wr = w1) (fun cv _ => p - (intOf cv).toNat)
              case atStart => exact ⟨0, Nat.zero_le _, rfl, rfl⟩
              case round =>
                obtain ⟨i, hi, rfl, hwr⟩ := hrel
                obtain rfl := hwr.symm
                clear hwr
                have hwi : IntKind.i64.wrap ((i : Int) + 1) = (i : Int) + 1 := by rw [IntKind.wrap_i64]; omega
                by_cases hip : i < p
                · have hipi : (i : Int) < (p : Int) := by omega
                  have hi0 : (0 : Int) ≤ (i : Int) := by omega
                  obtain ⟨b, o, rfl, hcell⟩ := HLC.out i hip
                  go_wp2
                  go_roundw
                  case rel => exact ⟨i + 1, by omega, by go_num, by first | rfl | trivial⟩
                  case measure => simp [intOf]; omega
                · have hd5 : ¬ (i : Int) < (p : Int) := by omega
                  go_wp2
                  go_roundw
                  case rel => exact ⟨t + 1, by omega, by go_num, by first | rfl | trivial⟩
                  case measure => simp [intOf]; omega
            · have hd6 : ¬ ((t : Int) < (K : Int)) := by omega
              obtain ⟨hc1, hq1⟩ := HC0.out w1 HWJ.out
              have HC1 := Nu.hid hc1
              have HQ1 := Nu.hid hq1
              have HWS : Hid (Wrote S V w1) := HWJ.out.mono (fun b _ hb => HSa.out b hb)
              clear hc1 hq1
              go_wp2
              clear hd6
              -- c is written over
              go_loopw [219] (fun cv wr => ∃ (i : Nat) (q : List Int), i ≤ L ∧ cv = .int .i64 (i : Int) ∧ q.length = L ∧ OwnZ wr Bc (.slice co L cc) q ∧ RowsZ wr Bq (.slice qo Q qc) qvs Ws ∧ Wrote S V wr) (fun cv _ => L - (intOf cv).toNat)
              case atStart => exact ⟨0, Dl, Nat.zero_le _, rfl, HL.out, HC1.out, HQ1.out, HWS.out⟩
              case round =>
                obtain ⟨i, q, hi, rfl, hql, hO, hR, hW⟩ := hrel
                obtain ⟨w2, rfl⟩ : ∃ w2, w2 = wr := ⟨wr, rfl⟩
                have HO := Nu.hid hO
                have HR := Nu.hid hR
                have HW := Nu.hid hW
                have HQL := Nu.hid hql
                have hwi : IntKind.i64.wrap ((i : Int) + 1) = (i : Int) + 1 := by rw [IntKind.wrap_i64]; omega
                by_cases hiL : i < L
                · have hiLi : (i : Int) < (L : Int) := by omega
                  have hi0 : (0 : Int) ≤ (i : Int) := by omega
                  obtain ⟨gx, hgx⟩ : ∃ gx, co = some ⟨gx, 0, none⟩ := by
                    have h1 := hO.2
                    rw [hql] at h1
                    rcases h1 with ⟨h', h0⟩ | ⟨g', c', cur, e', _⟩
                    · omega
                    · cases e'; exact ⟨g', rfl⟩
                  subst hgx
                  obtain ⟨z, hz⟩ : ∃ z, q[i]? = some z := ⟨_, List.getElem?_eq_getElem (by rw [hql]; exact hiL)⟩
                  have hcz := OwnZ.cellAt hO hz
                  have hfz := OwnZ.free hO i
                  have HO2 := Nu.hid (OwnZ.set hO i (-9))
                  have HR2 : Hid (RowsZ (w2.setCell ⟨gx, i, none⟩ (.int .i64 (-9))) Bq (.slice qo Q qc) qvs Ws) := hR.kept fun b hb _ => heap_setCell_other w2 ⟨gx, i, none⟩ b _ (fun e => by
                    subst e
                    exact HCQ.out _ rfl hb)
                  have HW2 := Nu.hid (hW.setCell (b := gx) (i := i) (HSc.out gx rfl) (.int .i64 (-9)))
                  clear hO hR hW hql hz
                  go_wp2
                  go_roundw
                  case rel => exact ⟨i + 1, q.set i (-9), by omega, by go_num, by rw [List.length_set]; exact HQL.out, HO2.out, HR2.out, HW2.out⟩
                  case measure => simp [intOf]; omega
                · have hd7 : ¬ (i : Int) < (L : Int) := by omega
                  clear hO hR hW hql
                  go_wp2
                  clear hd7
                  -- whole is written over
                  go_loopw [228] (fun cv wr => ∃ (k : Nat) (ls' : List (List Int)), k ≤ Q ∧ cv = .int .i64 (k : Int) ∧ RowsZ wr Bq (.slice qo Q qc) qvs ls' ∧ Alike Ws ls' ∧ Wrote S V wr) (fun cv _ => Q - (intOf cv).toNat)
                  case atStart => exact ⟨0, Ws, Nat.zero_le _, rfl, HR.out, ⟨rfl, fun j l hl => ⟨l, hl, rfl⟩⟩, HW.out⟩
                  case round =>
                    obtain ⟨k, lq, hk, rfl, hrows, hal, hwr⟩ := hrel
                    obtain ⟨w3, rfl⟩ : ∃ w3, w3 = wr := ⟨wr, rfl⟩
                    have HAL2 := Nu.hid hal
                    have HROWS2 := Nu.hid hrows
                    have HWR2 := Nu.hid hwr
                    have hwk : IntKind.i64.wrap ((k : Int) + 1) = (k : Int) + 1 := by rw [IntKind.wrap_i64]; omega
                    by_cases hlt : k < Q
                    · have hlti : (k : Int) < (Q : Int) := by omega
                      have hk0 : (0 : Int) ≤ (k : Int) := by omega
                      obtain ⟨l, hl⟩ : ∃ l, Ws[k]? = some l := ⟨_, List.getElem?_eq_getElem (by rw [HQ.out]; exact hlt)⟩
                      obtain ⟨l', hl', hll'⟩ := hal.2 k l hl
                      obtain ⟨x, hx⟩ := hrows.at' hl'
                      obtain ⟨g, gc, hvg, cx⟩ := row_at hrows hx
                      obtain ⟨xo, xc, hxe, -, -⟩ := (hrows.row k x l' hx hl').form
                      have hlen : lq.length = Q := by rw [hal.1, HQ.out]
                      rw [hlen] at hvg
                      have hvo : qo = some ⟨g, 0, none⟩ := by cases hvg; rfl
                      obtain ⟨p, hp⟩ : ∃ p, l'.length = p := ⟨_, rfl⟩
                      rw [hp] at hxe
                      have hpl : p ≤ 17592186043906 := by rw [← hp, hll']; exact HWL.out l (List.mem_of_getElem? hl)
                      subst hxe
                      have HX := Nu.hid hx
                      have HLk := Nu.hid hl
                      have HL' := Nu.hid hl'
                      have HP := Nu.hid hp
                      have HPL : Hid (l.length = p) := hll'.symm.trans hp
                      have HLEN := Nu.hid hlen
                      clear hrows hal hwr hx hl hl' hll' hp hlen hvg
                      subst hvo
                      go_wp2
                      clear cx
                      go_loopw [236] (fun cv wx => ∃ (i : Nat) (q : List Int), i ≤ p ∧ cv = .int .i64 (i : Int) ∧ q.length = p ∧ RowsZ wx Bq (.slice (some ⟨g, 0, none⟩) Q qc) qvs (lq.set k q) ∧ Wrote S V wx) (fun cv _ => p - (intOf cv).toNat)
                      case atStart =>
                        refine ⟨0, l', Nat.zero_le _, rfl, HP.out, ?_, HWR2.out⟩
                        have e : lq.set k l' = lq := by
                          refine List.ext_getElem? fun j => ?_
                          rw [List.getElem?_set]
                          by_cases e : k = j
                          · subst e
                            rw [if_pos rfl, if_pos (by rw [HLEN.out]; exact hlt), HL'.out]
                          · rw [if_neg e]
                        rw [e]
                        exact HROWS2.out
                      case round =>
                        obtain ⟨i, q, hip, rfl, hq, hrx, hwx⟩ := hrel
                        have HRX := Nu.hid hrx
                        have HWX := Nu.hid hwx
                        have HQq := Nu.hid hq
                        have hwi : IntKind.i64.wrap ((i : Int) + 1) = (i : Int) + 1 := by rw [IntKind.wrap_i64]; omega
                        by_cases hil : i < p
                        · have hili : (i : Int) < (p : Int) := by omega
                          have hi0 : (0 : Int) ≤ (i : Int) := by omega
                          obtain ⟨gx, hgx⟩ : ∃ gx, xo = some ⟨gx, 0, none⟩ := by
                            have := hrx.row k _ q HX.out (by rw [List.getElem?_set, if_pos rfl, if_pos (by rw [HLEN.out]; exact hlt)])
                            rcases this.2 with ⟨h', h0⟩ | ⟨g', c', cur, e', _⟩
                            · omega
                            · cases e'; exact ⟨g', rfl⟩
                          subst hgx
                          obtain ⟨g2, c2, hvg2, cx⟩ := row_at hrx HX.out
                          rw [List.length_set, HLEN.out] at hvg2
                          cases hvg2
                          obtain ⟨⟨y, cy⟩, fy, hrw, -⟩ := hrx.write HX.out (by rw [List.getElem?_set, if_pos rfl, if_pos (by rw [HLEN.out]; exact hlt)]) hq hil (-3)
                          have HRW := Nu.hid hrw
                          have HWW := Nu.hid (hwx.setCell (b := gx) (i := i) (HSq.out gx ⟨k, _, HX.out, rfl⟩) (.int .i64 (-3)))
                          clear hq hrx hwx hrw
                          go_wp2
                          go_roundw
                          case rel =>
                            refine ⟨i + 1, q.set i (-3), by omega, by go_num, by rw [List.length_set]; exact HQq.out, ?_, HWW.out⟩
                            have := HRW.out
                            rw [List.set_set] at this
                            exact this
                          case measure => simp [intOf]; omega
                        · have hd8 : ¬ ((i : Int) < (p : Int)) := by omega
                          clear hq hrx hwx
                          go_wp2
                          go_roundw
                          case rel =>
                            refine ⟨k + 1, _, by omega, by go_num, HRX.out, ⟨by rw [List.length_set]; exact HAL2.out.1, fun j b hb => ?_⟩, HWX.out⟩
                            rw [List.getElem?_set]
                            by_cases e : k = j
                            · subst e
                              rw [HLk.out] at hb
                              cases hb
                              exact ⟨q, by rw [if_pos rfl, if_pos (by rw [HLEN.out]; exact hlt)], by rw [HQq.out, HPL.out]⟩
                            · rw [if_neg e]
                              exact HAL2.out.2 j b hb
                          case measure => simp [intOf]; omega
                    · have hd9 : ¬ ((k : Int) < (Q : Int)) := by omega
                      obtain ⟨hk9, hb9⟩ := HKP.out w3 hwr
                      have HB9 := Nu.hid hb9
                      have HEQ := Nu.hid (equal_any n n ho ao hc ca es es w3 hk9.eh hk9.eg hel)
                      have HKB := Nu.hid hk9.kb
                      have HKW := Nu.hid hk9.kw
                      have HKD := Nu.hid hk9.kd
                      have HKL := Nu.hid hk9.kl
                      obtain ⟨g0, g1, h0, h1, -, -, -, -, -, -⟩ := hk9
                      have heq : Si.equal n n es es = true := Si.equal_yes rfl rfl
                      rw [heq] at HEQ
                      unfold graphVal at HEQ
                      clear hrows hal hwr hb9 heq
                      go_wp2_with (go_at_call 29; refine HEQ.out.mono ?_; rintro e w4 ⟨rfl, hb4⟩; refine Hid.out ?_)
                      refine Nu.hid ?_
                      have HB4 := Nu.hid (HB9.out.trans (hb4.mono HB9.out.size))
                      have hkb4 := HKB.out.later hb4
                      have hkw4 := HKW.out.later hb4
                      have HKD4 := Nu.hid (HKD.out.later hb4)
                      have HKL4 := Nu.hid (HKL.out.later hb4)
                      have HSL := Nu.hid (samelists3_any _ _ _ _ _ _ A w4 hkb4 hkw4 (by rw [HKA.out]; omega) (fun l hl => by have := HAL.out l hl; omega))
                      clear hb4 g0 g1 h0 h1 hkb4 hkw4 HEQ
                      go_wp2_with (go_at_call 14; refine HSL.out.mono ?_; rintro e w5 ⟨rfl, hb5⟩; refine Hid.out ?_)
                      refine Nu.hid ?_
                      have HB5 := Nu.hid (HB4.out.trans (hb5.mono HB4.out.size))
                      have hd5 := HKD4.out.later hb5
                      have hl5 := HKL4.out.later hb5
                      rw [← HL.out] at hd5 hl5
                      have hs3 := same3_own hd5 hl5 (by rw [HL.out]; omega)
                      rw [HL.out] at hs3
                      have HS3 := Nu.hid hs3
                      clear hb5 hd5 hl5 hs3 HSL
                      go_wp2_with (go_at_call 17; refine HS3.out.mono ?_; rintro e w6 ⟨rfl, hb6⟩; refine Hid.out ?_)
                      refine Nu.hid ?_
                      have HB6 := Nu.hid (HB5.out.trans (hb6.mono HB5.out.size))
                      clear hb6
                      go_wp2
                      go_ret
                      exact ⟨rfl, HB6.out⟩
end
end lawFOw
end Go.Proofs.Ytfkmldopfhdbkaa
