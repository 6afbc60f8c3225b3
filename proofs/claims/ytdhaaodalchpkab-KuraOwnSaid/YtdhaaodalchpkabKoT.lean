/-
  The law KuraOwn: behind its calls: what was answered is written over, and the rest is looked at.
-/
import Derived.Test.YtdhaaodalchpkabMgS
import Derived.Test.YtdhaaodalchpkabKuU
namespace Go.Proofs.Ytdhaaodalchpkab
open Go.ChangeShapes Go.WideShapes Go.ChangeAt Go.RowKit
namespace lawKO

/-- What must be there at the end. -/
structure Fin15 (mb sb : Nat) (kd : Int) (br : List Int) (ps R : List (List Int)) (bo wo ma sa mp sp : Option Addr) (J q p bc wc mc scc mpc spc : Nat) (U : World) : Prop where
  b : Ku.SeesL U (.slice bo J bc) R
  w : Ku.SeesL U (.slice wo J wc) R
  m0 : U.heap[mb]? = some (.cells #[.int .i64 kd, .slice ma q mc, .slice mp p mpc] 36 (0, 0))
  s0 : U.heap[sb]? = some (.cells #[.int .i64 kd, .slice sa q scc, .slice sp p spc] 36 (0, 0))
  mi : IntsAt U ma br
  si : IntsAt U sa br
  ml : Ku.SeesL U (.slice mp p mpc) ps
  sl : Ku.SeesL U (.slice sp p spc) ps

section
variable {t0 t1 t2 t4 t5 t6 t7 t9 t10 t11 t12 t14 t15 t17 t19 t20 t22 t23 t24 t25 t26 t27 t28 t29 t30 t31 t32 t33 t34 t35 t36 t37 t38 t39 t40 t41 t42 t43 t44 t45 t46 t47 t48 t49 t50 t51 t52 t53 t54 t55 t56 t57 t58 t59 t60 t61 t62 t63 t64 t65 t66 t67 t68 t69 t70 t71 t72 t73 t74 t75 t76 t77 t78 t79 t80 t81 t82 t83 t84 t85 t86 t87 t88 t89 t90 t91 t92 t93 t94 t95 t96 t97 t98 t99 t100 t101 t102 t103 t104 t105 t106 t107 t108 t109 t110 t111 t112 t113 t114 t115 t116 t117 t118 t119 t120 t121 t122 t123 t124 t125 t126 t127 t128 t129 t130 t131 t132 t133 t134 t135 t136 t137 t138 t139 t140 t141 t142 t143 t144 t145 t146 t147 t148 t149 t150 t151 t152 t153 t154 t155 t156 t157 t158 t159 t160 t161 t162 t163 t164 t165 t166 t167 t168 t169 t170 t171 t172 t173 t174 t175 t176 t177 t178 t179 t180 t181 t182 t183 t184 t185 : Value} {Ba Bf gf F fc K ac mb sb J q p bc wc mc scc mpc spc : Nat} {aa bo wo ma sa mp sp : Option Addr} {avs : List Value} {A R ps : List (List Int)} {fe : List (Int × Int)} {br : List Int} {kd : Int} {w V : World}

set_option maxRecDepth 100000 in
set_option maxHeartbeats 32000000 in
theorem tail (ha : RowsZ V Ba (.slice aa K ac) avs A) (hKA : A.length = K) (hKb : K ≤ 17592186043904) (hBa : Ba ≤ V.heap.size) (hAl : ∀ l ∈ A, l.length ≤ 8388610) (hf : OwnE V Bf (.slice (some ⟨gf, 0, none⟩) F fc) fe) (hF : fe.length = F) (hFb : F ≤ 8796093022000) (hgf : ¬ inV avs gf)
    (hKp : ∀ U, Wrote (fun b => inV avs b ∨ b = gf) V U → Fin15 mb sb kd br ps R bo wo ma sa mp sp J q p bc wc mc scc mpc spc U) (hJ : R.length = J) (hq : br.length = q) (hp : ps.length = p) (hJb : J ≤ 4611686018427387904) (hRl : ∀ l ∈ R, l.length ≤ 4611686018427387904) (hqb : q ≤ 4611686018427387904) (hpb : p ≤ 4611686018427387904) (hpl : ∀ l ∈ ps, l.length ≤ 4611686018427387904)
    (hbel : Below w.heap.size w V) (hlow : ∀ b, (inV avs b ∨ b = gf) → w.heap.size ≤ b) :
    Code.wp Try.prog (Ku.spine15 14 (Try.f3.body.getD .skip)) (bodyPost Try.prog Try.f3 fun e w' => e = .returned (.bool true) ∧ Below w.heap.size w w') { tmps := #[t0, t1, t2, .slice (some ⟨gf, 0, none⟩) F fc, t4, t5, t6, t7, .slice bo J bc, t9, t10, t11, t12, .pointer (some ⟨mb, 0, none⟩), t14, t15, .slice wo J wc, t17, .pointer (some ⟨sb, 0, none⟩), t19, t20, .slice aa K ac, t22, t23, t24, t25, t26, t27, t28, t29, t30, t31, t32, t33, t34, t35, t36, t37, t38, t39, t40, t41, t42, t43, t44, t45, t46, t47, t48, t49, t50, t51, t52, t53, t54, t55, t56, t57, t58, t59, t60, t61, t62, t63, t64, t65, t66, t67, t68, t69, t70, t71, t72, t73, t74, t75, t76, t77, t78, t79, t80, t81, t82, t83, t84, t85, t86, t87, t88, t89, t90, t91, t92, t93, t94, t95, t96, t97, t98, t99, t100, t101, t102, t103, t104, t105, t106, t107, t108, t109, t110, t111, t112, t113, t114, t115, t116, t117, t118, t119, t120, t121, t122, t123, t124, t125, t126, t127, t128, t129, t130, t131, t132, t133, t134, t135, t136, t137, t138, t139, t140, t141, t142, t143, t144, t145, t146, t147, t148, t149, t150, t151, t152, t153, t154, t155, t156, t157, t158, t159, t160, t161, t162, t163, t164, t165, t166, t167, t168, t169, t170, t171, t172, t173, t174, t175, t176, t177, t178, t179, t180, t181, t182, t183, t184, t185], defers := [] } V := by
  obtain ⟨S, hS⟩ : ∃ S : Nat → Prop, S = fun b => inV avs b ∨ b = gf := ⟨_, rfl⟩
  have HKP : Hid (∀ U, Wrote S V U → Fin15 mb sb kd br ps R bo wo ma sa mp sp J q p bc wc mc scc mpc spc U ∧ Below w.heap.size w U) := fun U hU => by
    rw [hS] at hU
    exact ⟨hKp U hU, hbel.trans (hU.below hbel.size hlow)⟩
  have HSa : Hid (∀ b, inV avs b → S b) := fun b hb => by rw [hS]; exact .inl hb
  have HSg : Hid (S gf) := by rw [hS]; exact .inr rfl
  have HF0 : Hid (∀ U, Wrote (inV avs) V U → OwnE U Bf (.slice (some ⟨gf, 0, none⟩) F fc) fe) := fun U hU => ownE_keep15 hf hU fun b hb h => by
    have hgb : gf = b := by simpa [Value.ownBlock] using hb
    exact hgf (hgb ▸ h)
  have HSL : Hid (∀ U, Ku.SeesL U (.slice bo J bc) R → Ku.SeesL U (.slice wo J wc) R → Calls Try.prog 11 #[.slice bo J bc, .slice wo J wc] U fun e w' => e = .returned (.bool true) ∧ Below U.heap.size U w') := fun U h1 h2 => samelists_sees _ _ _ U h1 h2 (by rw [hJ]; exact hJb) hRl
  have HSM : Hid (∀ U, Fin15 mb sb kd br ps R bo wo ma sa mp sp J q p bc wc mc scc mpc spc U → Calls Try.prog 12 #[.agg #[.int .i64 kd, .slice ma q mc, .slice mp p mpc], .agg #[.int .i64 kd, .slice sa q scc, .slice sp p spc]] U fun e w' => e = .returned (.bool true) ∧ Below U.heap.size U w') := fun U h => ksame_any kd ma sa mp sp mc scc mpc spc q p br ps U hq hp h.mi h.si h.ml h.sl hqb hpb hpl
  have HA := Nu.hid ha
  have HKA := Nu.hid hKA
  have HAL := Nu.hid hAl
  have HFL := Nu.hid hF
  clear ha hKA hAl hf hF hgf hKp hJ hq hp hRl hpl hbel hlow hS hJb hqb hpb
  simp only [Try.f3, Option.getD, Ku.spine15]
  go_wp2
  -- a is written over
  go_loopw [105] (fun cv wr => ∃ (k : Nat) (ls' : List (List Int)), k ≤ K ∧ cv = .int .i64 (k : Int) ∧ RowsZ wr Ba (.slice aa K ac) avs ls' ∧ Over A ls' k ∧ Wrote (inV avs) V wr) (fun cv _ => K - (intOf cv).toNat)
  case atStart => exact ⟨0, A, Nat.zero_le _, rfl, HA.out, ⟨rfl, fun j l hl => ⟨l, hl, rfl, fun h => by omega⟩⟩, Wrote.refl _ _⟩
  case round =>
    obtain ⟨k, ls', hk, rfl, hrows, hov, hwr⟩ := hrel
    obtain ⟨w0, rfl⟩ : ∃ w0, w0 = wr := ⟨wr, rfl⟩
    have HOV := Nu.hid hov
    have HROWS := Nu.hid hrows
    have HWR := Nu.hid hwr
    have hwk : IntKind.i64.wrap ((k : Int) + 1) = (k : Int) + 1 := by rw [IntKind.wrap_i64]; omega
    by_cases hlt : k < K
    · have hlti : (k : Int) < (K : Int) := by omega
      have hk0 : (0 : Int) ≤ (k : Int) := by omega
      have hwm : IntKind.i64.wrap ((-100 : Int) - (k : Int)) = -100 - (k : Int) := by rw [IntKind.wrap_i64]; omega
      obtain ⟨l, hl⟩ : ∃ l, A[k]? = some l := ⟨_, List.getElem?_eq_getElem (by rw [HKA.out]; exact hlt)⟩
      obtain ⟨l', hl', hll', -⟩ := hov.2 k l hl
      obtain ⟨x, hx⟩ := hrows.at' hl'
      obtain ⟨g, gc, hvg, cx⟩ := row_at hrows hx
      obtain ⟨xo, xc, hxe, -, -⟩ := (hrows.row k x l' hx hl').form
      have hlen : ls'.length = K := by rw [hov.1, HKA.out]
      rw [hlen] at hvg
      have hvo : aa = some ⟨g, 0, none⟩ := by cases hvg; rfl
      obtain ⟨p, hp⟩ : ∃ p, l'.length = p := ⟨_, rfl⟩
      rw [hp] at hxe
      have hpl : p ≤ 8388610 := by rw [← hp, hll']; exact HAL.out l (List.mem_of_getElem? hl)
      subst hxe
      have HX := Nu.hid hx
      have HLk := Nu.hid hl
      have HL' := Nu.hid hl'
      have HP := Nu.hid hp
      have HPL : Hid (l.length = p) := hll'.symm.trans hp
      have HLEN := Nu.hid hlen
      clear hrows hov hwr hx hl hl' hll' hp hlen hvg
      subst hvo
      go_wp2
      clear cx
      go_loopw [113] (fun cv wx => ∃ (i : Nat) (q : List Int), i ≤ p ∧ cv = .int .i64 (i : Int) ∧ q.length = p ∧ (∀ t, t < i → q[t]? = some (-100 - (k : Int))) ∧ RowsZ wx Ba (.slice (some ⟨g, 0, none⟩) K ac) avs (ls'.set k q) ∧ Wrote (inV avs) V wx) (fun cv _ => p - (intOf cv).toNat)
      case atStart =>
        refine ⟨0, l', Nat.zero_le _, rfl, HP.out, fun t ht => by omega, ?_, HWR.out⟩
        have e : ls'.set k l' = ls' := by
          refine List.ext_getElem? fun j => ?_
          rw [List.getElem?_set]
          by_cases e : k = j
          · subst e
            rw [if_pos rfl, if_pos (by rw [HLEN.out]; exact hlt), HL'.out]
          · rw [if_neg e]
        rw [e]
        exact HROWS.out
      case round =>
        obtain ⟨i, q, hip, rfl, hq, hqt, hrx, hwx⟩ := hrel
        have HRX := Nu.hid hrx
        have HWX := Nu.hid hwx
        have HQq := Nu.hid hq
        have HQT := Nu.hid hqt
        have hwi : IntKind.i64.wrap ((i : Int) + 1) = (i : Int) + 1 := by rw [IntKind.wrap_i64]; omega
        by_cases hil : i < p
        · have hili : (i : Int) < (p : Int) := by omega
          have hi0 : (0 : Int) ≤ (i : Int) := by omega
          obtain ⟨gx, hgx⟩ : ∃ gx, xo = some ⟨gx, 0, none⟩ := by
            have := hrx.row k _ q HX.out (by rw [List.getElem?_set, if_pos rfl, if_pos (by rw [HLEN.out]; exact hlt)])
            rcases this.2 with ⟨h', h0⟩ | ⟨g', c', cur, e', _⟩
            · omega
            · cases e'; exact ⟨g', rfl⟩
          subst hgx
          obtain ⟨g2, c2, hvg2, cx⟩ := row_at hrx HX.out
          rw [List.length_set, HLEN.out] at hvg2
          cases hvg2
          obtain ⟨⟨y, cy⟩, fy, hrw, -⟩ := hrx.write HX.out (by rw [List.getElem?_set, if_pos rfl, if_pos (by rw [HLEN.out]; exact hlt)]) hq hil (-100 - (k : Int))
          have HRW := Nu.hid hrw
          have HWW := Nu.hid (hwx.setCell (b := gx) (i := i) ⟨k, _, HX.out, rfl⟩ (.int .i64 (-100 - (k : Int))))
          clear hq hqt hrx hwx hrw
          go_wp2
          go_roundw
          case rel =>
            refine ⟨i + 1, q.set i (-100 - (k : Int)), by omega, by go_num, by rw [List.length_set]; exact HQq.out, fun t ht => ?_, ?_, HWW.out⟩
            · rw [List.getElem?_set]
              by_cases e : i = t
              · rw [if_pos e, if_pos (by rw [HQq.out]; exact hil)]
              · rw [if_neg e]; exact HQT.out t (by omega)
            · have := HRW.out
              rw [List.set_set] at this
              exact this
          case measure => simp [intOf]; omega
        · have hd2 : ¬ ((i : Int) < (p : Int)) := by omega
          have hqr : q = List.replicate l.length (-100 - (k : Int)) := by
            refine List.ext_getElem? fun t => ?_
            rw [List.getElem?_replicate, HPL.out]
            by_cases ht : t < p
            · rw [if_pos ht]; exact hqt t (by omega)
            · rw [if_neg ht, List.getElem?_eq_none (by omega)]
          have HQR := Nu.hid hqr
          clear hq hqt hrx hwx hqr
          go_wp2
          go_roundw
          case rel =>
            refine ⟨k + 1, _, by omega, by go_num, HRX.out, ⟨by rw [List.length_set]; exact HOV.out.1, fun j b hb => ?_⟩, HWX.out⟩
            rw [List.getElem?_set]
            by_cases e : k = j
            · subst e
              rw [HLk.out] at hb
              cases hb
              exact ⟨q, by rw [if_pos rfl, if_pos (by rw [HLEN.out]; exact hlt)], by rw [HQq.out, HPL.out], fun _ => HQR.out⟩
            · rw [if_neg e]
              obtain ⟨b', h1, h2, h3⟩ := HOV.out.2 j b hb
              exact ⟨b', h1, h2, fun hj => h3 (by omega)⟩
          case measure => simp [intOf]; omega
    · have hd : ¬ ((k : Int) < (K : Int)) := by omega
      have hkK : k = K := by omega
      have HN' : Hid (ls'.length = K) := hov.1.trans HKA.out
      have HLN : Hid (∀ (j : Nat) (l : List Int), ls'[j]? = some l → l.length ≤ 8388610 ∧ l = List.replicate l.length (-100 - (j : Int))) := fun j l' hl' => by
        have hjl := (List.getElem?_eq_some_iff.1 hl').1
        obtain ⟨l, hl⟩ : ∃ l, A[j]? = some l := ⟨_, List.getElem?_eq_getElem (by rw [← hov.1]; exact hjl)⟩
        obtain ⟨l2, h1, h2, h3⟩ := hov.2 j l hl
        rw [hl'] at h1
        cases h1
        refine ⟨by rw [h2]; exact HAL.out l (List.mem_of_getElem? hl), ?_⟩
        rw [h2]
        exact h3 (by rw [HN'.out] at hjl; omega)
      have hBw : Ba ≤ w0.heap.size := Nat.le_trans hBa hwr.size
      clear hrows hov hwr hkK hd
      have hd : ¬ ((k : Int) < (K : Int)) := by omega
      go_wp2
      clear hd
      -- grown
      go_loopw [128] (fun cv wr => ∃ j : Nat, j ≤ K ∧ cv = .int .i64 (j : Int) ∧ RowsZ wr Ba (.slice aa K ac) avs ls' ∧ Wrote (inV avs) V wr) (fun cv _ => K - (intOf cv).toNat)
      case atStart => exact ⟨0, Nat.zero_le _, rfl, HROWS.out, HWR.out⟩
      case round =>
        obtain ⟨j, hj, rfl, hrj, hwj⟩ := hrel
        obtain ⟨w1, rfl⟩ : ∃ w1, w1 = wr := ⟨wr, rfl⟩
        have HRJ := Nu.hid hrj
        have HWJ := Nu.hid hwj
        have hB1 : Ba ≤ w1.heap.size := Nat.le_trans hBa hwj.size
        have hwj1 : IntKind.i64.wrap ((j : Int) + 1) = (j : Int) + 1 := by rw [IntKind.wrap_i64]; omega
        by_cases hjk : j < K
        · have hjki : (j : Int) < (K : Int) := by omega
          have hj0 : (0 : Int) ≤ (j : Int) := by omega
          obtain ⟨l, hl⟩ : ∃ l, ls'[j]? = some l := ⟨_, List.getElem?_eq_getElem (by rw [HN'.out]; exact hjk)⟩
          obtain ⟨x, hx⟩ := hrj.at' hl
          obtain ⟨g, gc', hvg, cx⟩ := row_at hrj hx
          rw [HN'.out] at hvg
          have hvo : aa = some ⟨g, 0, none⟩ := by cases hvg; rfl
          obtain ⟨xo, xc, hxe, -, -⟩ := (hrj.row j x l hx hl).form
          have hlL := (HLN.out j l hl).1
          have hrow0 := hrj.row j x l hx hl
          unfold OwnZ at hrow0
          obtain ⟨p, hp⟩ : ∃ p, l.length = p := ⟨_, rfl⟩
          rw [hp] at hxe hlL hrow0
          subst hxe
          have HX := Nu.hid hx
          have HLj := Nu.hid hl
          have HP := Nu.hid hp
          have HR0 := Nu.hid hrow0
          have HLT : Hid (∀ b, ((Value.slice aa K ac).ownBlock = some b ∨ inV avs b) → b < w1.heap.size) := fun b hb => by
            rcases hb with hb | ⟨u, z, hz, hzb⟩
            · exact (World.ownsRow.lt hrj.outer b hb).2
            · obtain ⟨q, hq⟩ := hrj.at hz
              exact (World.ownsRow.lt (hrj.row u z q hz hq) b hzb).2
          subst hvo
          clear hrj hwj hx hl hp hvg hrow0
          go_wp2
          clear cx
          go_loopw [25, 26] (fun gw cv wx => ∃ (i : Nat) (yo : Option Addr) (yc : Nat) (ys : List Value), i ≤ 20 ∧ cv = .int .i64 (i : Int) ∧ gw = .slice yo (p + i) yc ∧ ys.length = i ∧ wx.ownsRow Ba 3 1 (.slice yo (p + i) yc) (p + i) (l.map (Value.int .i64) ++ ys) ∧ ((yo = xo ∧ yc = xc) ∨ ∃ g', yo = some ⟨g', 0, none⟩ ∧ w1.heap.size ≤ g') ∧ RowsZ wx Ba (.slice (some ⟨g, 0, none⟩) K ac) avs ls' ∧ Wrote (inV avs) V wx ∧ w1.heap.size ≤ wx.heap.size) (fun _ cv _ => 20 - (intOf cv).toNat)
          case atStart => exact ⟨0, xo, xc, [], by omega, rfl, rfl, rfl, by rw [List.append_nil]; exact HR0.out, .inl ⟨rfl, rfl⟩, HRJ.out, HWJ.out, Nat.le_refl _⟩
          case round =>
            obtain ⟨i, yo, yc, ys, hi3, rfl, rfl, hys, hown, hyo, hbx, hwx, hsx⟩ := hrel
            have HOWN := Nu.hid hown
            have HYO := Nu.hid hyo
            have HBX := Nu.hid hbx
            have HWX := Nu.hid hwx
            have HYS := Nu.hid hys
            have hwi : IntKind.i64.wrap ((i : Int) + 1) = (i : Int) + 1 := by rw [IntKind.wrap_i64]; omega
            by_cases hi2 : i < 20
            · have hi3i : (i : Int) < 20 := by omega
              clear hown hyo hbx hys hwx
              go_wp2_with (at_builtin; refine wpList_append_keep rfl _ _ rfl Ba (p + i) yo yc _ (-5) rfl (World.ownsRow.alloc HOWN.out _) ⟨wr.heap.size, 0, none⟩ rfl (cell_one_new _ _ _) (by omega) (by simp; omega) ?_; refine Hid.out ?_)
              refine Nu.hid ?_
              intro g2 c2 w2 hnew hold hgrow hblk hlt2
              have hnew' : w2.ownsRow Ba 3 1 (.slice (some ⟨g2, 0, none⟩) (p + (i + 1)) c2) (p + (i + 1)) (l.map (Value.int .i64) ++ (ys ++ [.int .i64 (-5)])) := by
                exact hnew
              have hba : Below wr.heap.size wr (wr.alloc (.cells #[.int .i64 (-5)] 3)) := (Below.refl _ _).alloc (Nat.le_refl _) _
              have hR1 := HBX.out.later hba
              have hxrow : OwnZ w2 Ba (.slice xo p xc) l := by
                unfold OwnZ
                rw [HP.out]
                rcases HYO.out with ⟨rfl, rfl⟩ | ⟨g', rfl, hg'⟩
                · rcases HR0.out.2 with ⟨h', h0⟩ | ⟨gx, c', cur, e', _⟩
                  · have hl0 : l = [] := List.length_eq_zero_iff.1 (by rw [HP.out]; exact h0)
                    rw [h', hl0, h0]
                    exact World.ownsRow_nil _ _ _ _
                  · cases e'
                    exact own_prefix hold (by simp [HP.out])
                · have hx2 := hR1.row j _ l HX.out HLj.out
                  have hx3 : OwnZ w2 Ba (.slice xo p xc) l := hx2.same fun b hb hltb => hgrow.block b hltb (fun e => by
                    have e3 : g' = b := by simpa [Value.ownBlock] using e.symm
                    have := HLT.out b (.inr ⟨j, _, HX.out, hb⟩)
                    omega)
                  unfold OwnZ at hx3
                  rw [HP.out] at hx3
                  exact hx3
              have hblkr : ∀ b, (Value.slice yo (p + i) yc).ownBlock = some b → (Value.slice xo p xc).ownBlock = some b ∨ w1.heap.size ≤ b := fun b hb => by
                rcases HYO.out with ⟨rfl, rfl⟩ | ⟨g', rfl, hg'⟩
                · left
                  cases yo
                  · cases hb
                  · exact hb
                · have e3 : g' = b := by simpa [Value.ownBlock] using hb
                  exact .inr (by omega)
              have hR2 := RowsZ.grew hR1 HX.out HLj.out hgrow hblkr (fun b hb => ⟨HLT.out b hb, by have h1 := HLT.out b hb; rw [World.size_alloc]; omega⟩) hxrow
              have hsz2 := hgrow.size
              rw [World.size_alloc] at hsz2
              have hVs := HWJ.out.size
              have hW2 : Wrote (inV avs) V w2 := by
                have h1 := HWX.out.later hba
                refine ⟨hgrow.os.trans h1.os, hgrow.tape.trans h1.tape, hgrow.output.trans h1.output, Nat.le_trans h1.size hgrow.size, fun b hb hne => ?_⟩
                rw [hgrow.block b (Nat.lt_of_lt_of_le hb h1.size) (fun e => ?_)]
                · exact h1.block b hb hne
                · rcases hblkr b e.symm with h2 | h2
                  · exact hne ⟨j, _, HX.out, h2⟩
                  · omega
              have hblk2 : ((some ⟨g2, 0, none⟩ : Option Addr) = xo ∧ c2 = xc) ∨ ∃ g', (some ⟨g2, 0, none⟩ : Option Addr) = some ⟨g', 0, none⟩ ∧ w1.heap.size ≤ g' := by
                rcases hblk with ⟨hb1, rfl⟩ | hb1
                · rcases HYO.out with ⟨rfl, rfl⟩ | ⟨g', rfl, hg'⟩
                  · left
                    rcases HOWN.out.2 with ⟨h', h0⟩ | ⟨gx, c', cur, e', _⟩
                    · rw [h'] at hb1; cases hb1
                    · cases e'
                      have e3 : gx = g2 := by simpa [Value.ownBlock] using hb1
                      subst e3
                      exact ⟨rfl, rfl⟩
                  · right
                    have e3 : g' = g2 := by simpa [Value.ownBlock] using hb1
                    subst e3
                    exact ⟨g', rfl, hg'⟩
                · right
                  exact ⟨g2, rfl, by omega⟩
              have HNEW := Nu.hid hnew'
              have HR2 := Nu.hid hR2
              have HW2 := Nu.hid hW2
              have HBK := Nu.hid hblk2
              clear hnew hold hgrow hblk hnew' hxrow hR1 hR2 hW2 hblk2 hblkr hba
              go_wp2
              go_roundw
              case rel => exact ⟨i + 1, some ⟨g2, 0, none⟩, c2, ys ++ [.int .i64 (-5)], by omega, by go_num, rfl, by rw [List.length_append, HYS.out]; rfl, HNEW.out, HBK.out, HR2.out, HW2.out, by omega⟩
              case measure => simp [intOf]; omega
            · have hd3 : ¬ (i : Int) < 20 := by omega
              clear hown hyo hbx hys hwx
              go_wp2
              go_roundw
              case rel => exact ⟨j + 1, by omega, by go_num, HBX.out, HWX.out⟩
              case measure => simp [intOf]; omega
        · have hd4 : ¬ ((j : Int) < (K : Int)) := by omega
          clear hrj hwj
          go_wp2
          clear hd4
          -- looked at
          go_loopw [145] (fun cv wr => ∃ t : Nat, t ≤ K ∧ cv = .int .i64 (t : Int) ∧ wr = w1) (fun cv _ => K - (intOf cv).toNat)
          case atStart => exact ⟨0, Nat.zero_le _, rfl, rfl⟩
          case round =>
            obtain ⟨t, ht, rfl, hwr⟩ := hrel
            obtain rfl := hwr.symm
            clear hwr
            have hwt : IntKind.i64.wrap ((t : Int) + 1) = (t : Int) + 1 := by rw [IntKind.wrap_i64]; omega
            by_cases htk : t < K
            · have htki : (t : Int) < (K : Int) := by omega
              have ht0 : (0 : Int) ≤ (t : Int) := by omega
              have hwm : IntKind.i64.wrap ((-100 : Int) - (t : Int)) = -100 - (t : Int) := by rw [IntKind.wrap_i64]; omega
              have hne : ((-100 - (t : Int)) != (-100 - (t : Int))) = false := by simp
              obtain ⟨l, hl⟩ : ∃ l, ls'[t]? = some l := ⟨_, List.getElem?_eq_getElem (by rw [HN'.out]; exact htk)⟩
              obtain ⟨x, hx⟩ := HRJ.out.at' hl
              obtain ⟨g, gc', hvg, cx⟩ := row_at HRJ.out hx
              rw [HN'.out] at hvg
              have hvo : aa = some ⟨g, 0, none⟩ := by cases hvg; rfl
              obtain ⟨xo, xc, hxe, hxat, -⟩ := (HRJ.out.row t x l hx hl).form
              obtain ⟨p, hp⟩ : ∃ p, l.length = p := ⟨_, rfl⟩
              have hlL := HLN.out t l hl
              rw [hp] at hxe hlL
              have HLC : Hid (∀ i, i < p → ∃ b o : Nat, xo = some ⟨b, o, none⟩ ∧ w1.cell? ⟨b, o + i, none⟩ = some (.int .i64 (-100 - (t : Int)))) := fun i hip => by
                refine hxat i _ ?_
                rw [hlL.2, List.getElem?_replicate, if_pos hip]
              have hpl := hlL.1
              subst hxe
              subst hvo
              clear hl hx hvg hxat hlL hp
              go_wp2
              go_loopw [153] (fun cv wr => ∃ i : Nat, i ≤ p ∧ cv = .int .i64 (i : Int) ∧ wr = w1) (fun cv _ => p - (intOf cv).toNat)
              case atStart => exact ⟨0, Nat.zero_le _, rfl, rfl⟩
              case round =>
                obtain ⟨i, hi, rfl, hwr⟩ := hrel
                obtain rfl := hwr.symm
                clear hwr
                have hwi : IntKind.i64.wrap ((i : Int) + 1) = (i : Int) + 1 := by rw [IntKind.wrap_i64]; omega
                by_cases hip : i < p
                · have hipi : (i : Int) < (p : Int) := by omega
                  have hi0 : (0 : Int) ≤ (i : Int) := by omega
                  obtain ⟨b, o, rfl, hcell⟩ := HLC.out i hip
                  go_wp2
                  go_roundw
                  case rel => exact ⟨i + 1, by omega, by go_num, by first | rfl | trivial⟩
                  case measure => simp [intOf]; omega
                · have hd5 : ¬ (i : Int) < (p : Int) := by omega
                  go_wp2
                  go_roundw
                  case rel => exact ⟨t + 1, by omega, by go_num, by first | rfl | trivial⟩
                  case measure => simp [intOf]; omega
            · have hd6 : ¬ ((t : Int) < (K : Int)) := by omega
              have HF1 := Nu.hid (HF0.out w1 HWJ.out)
              have HWS : Hid (Wrote S V w1) := HWJ.out.mono (fun b _ hb => HSa.out b hb)
              go_wp2
              clear hd6
              -- the copy is written over
              go_loopw [170] (fun cv wr => ∃ (i : Nat) (fq : List (Int × Int)), i ≤ F ∧ cv = .int .i64 (i : Int) ∧ fq.length = F ∧ OwnE wr Bf (.slice (some ⟨gf, 0, none⟩) F fc) fq ∧ Wrote S V wr) (fun cv _ => F - (intOf cv).toNat)
              case atStart => exact ⟨0, _, Nat.zero_le _, rfl, HFL.out, HF1.out, HWS.out⟩
              case round =>
                obtain ⟨i, fq, hil, rfl, hql, hOE, hK⟩ := hrel
                have HQL := Nu.hid hql
                have hwi : IntKind.i64.wrap ((i : Int) + 1) = (i : Int) + 1 := by rw [IntKind.wrap_i64]; omega
                by_cases hiF : i < F
                · have hiFi : (i : Int) < (F : Int) := by omega
                  have hi0 : (0 : Int) ≤ (i : Int) := by omega
                  obtain ⟨p1, ⟨u, v, z0, z1⟩, f0, f1⟩ := ownE_put15 hOE (i := i) (by omega) 3 1
                  have HEND := Nu.hid (And.intro p1 ((hK.setCell HSg.out (.int .i64 3) (i := i * 2)).setCell HSg.out (.int .i64 1) (i := i * 2 + 1)))
                  clear hOE hK p1 hql
                  go_wp2
                  go_roundw
                  case rel => exact ⟨i + 1, _, by omega, by go_num, by rw [List.length_set]; exact HQL.out, HEND.out.1, HEND.out.2⟩
                  case measure => simp [intOf]; omega
                · have hd7 : ¬ (i : Int) < (F : Int) := by omega
                  obtain ⟨U, rfl⟩ : ∃ U, U = wr := ⟨wr, rfl⟩
                  obtain ⟨hfin, hlw⟩ := HKP.out U hK
                  have HFIN := Nu.hid hfin
                  have HLW := Nu.hid hlw
                  have HS1 := Nu.hid (HSL.out U hfin.b hfin.w)
                  clear hOE hK hql hfin hlw
                  go_wp2_with (go_at_call 11; refine HS1.out.mono ?_; rintro e u2 ⟨rfl, hb2⟩; refine Hid.out ?_)
                  refine Nu.hid ?_
                  have HFIN2 : Hid (Fin15 mb sb kd br ps R bo wo ma sa mp sp J q p bc wc mc scc mpc spc u2) := ⟨HFIN.out.b.later hb2, HFIN.out.w.later hb2, blk_later15 HFIN.out.m0 hb2, blk_later15 HFIN.out.s0 hb2, HFIN.out.mi.later hb2, HFIN.out.si.later hb2, HFIN.out.ml.later hb2, HFIN.out.sl.later hb2⟩
                  have HLW2 := Nu.hid (HLW.out.trans (hb2.mono HLW.out.size))
                  have HS2 := Nu.hid (HSM.out u2 HFIN2.out)
                  obtain ⟨y0, y1, y2, -⟩ := cells3_15 HFIN2.out.m0
                  obtain ⟨z0, z1, z2, -⟩ := cells3_15 HFIN2.out.s0
                  clear hb2
                  go_wp2_with (go_at_call 12; refine HS2.out.mono ?_; rintro e u3 ⟨rfl, hb3⟩; refine Hid.out ?_)
                  refine Nu.hid ?_
                  have HLW3 := Nu.hid (HLW2.out.trans (hb3.mono HLW2.out.size))
                  clear hb3
                  go_wp2
                  go_ret
                  exact ⟨rfl, HLW3.out⟩
end
end lawKO
end Go.Proofs.Ytdhaaodalchpkab
