import Derived.Test.YtjlfdkeklilafabMg14
import Derived.Test.YtjlfdkeklilafabMg05
import Derived.Test.YtjlfdkeklilafabMg17
import Derived.Test.YtjlfdkeklilafabMg08
import Derived.Test.YtjlfdkeklilafabMg18
/-
  The law RotMemory: the six rounds.
-/
namespace Go.Proofs.Ytjlfdkeklilafab
open Go.ChangeShapes Go.WideShapes Go.ChangeAt Go.RowKit

theorem inV_append {vs vs2 : List Value} {b : Nat} : inV (vs ++ vs2) b ↔ inV vs b ∨ inV vs2 b := by
  constructor
  · rintro ⟨u, x, hx, hb⟩
    rcases List.mem_append.1 (List.mem_of_getElem? hx) with h | h
    · obtain ⟨j, hj⟩ := List.getElem?_of_mem h
      exact .inl ⟨j, x, hj, hb⟩
    · obtain ⟨j, hj⟩ := List.getElem?_of_mem h
      exact .inr ⟨j, x, hj, hb⟩
  · rintro (⟨u, x, hx, hb⟩ | ⟨u, x, hx, hb⟩)
    · obtain ⟨j, hj⟩ := List.getElem?_of_mem (List.mem_append_left vs2 (List.mem_of_getElem? hx))
      exact ⟨j, x, hj, hb⟩
    · obtain ⟨j, hj⟩ := List.getElem?_of_mem (List.mem_append_right vs (List.mem_of_getElem? hx))
      exact ⟨j, x, hj, hb⟩
theorem inV_one {y : Value} {b : Nat} : inV [y] b ↔ y.ownBlock = some b := by
  constructor
  · rintro ⟨u, x, hx, hb⟩
    rw [List.mem_singleton.1 (List.mem_of_getElem? hx)] at hb
    exact hb
  · intro h
    exact ⟨0, y, rfl, h⟩

namespace Ro
theorem froms_ok {n : Int} {es : List (Int × Int)} {ls : List (List Int)} (h : (check n es ls).2 = 0) : froms n es (arounds n es ls) = ls := by
  have hr := check_iff.1 h
  have hv := Si.valid_iff.1 hr.val
  obtain ⟨m, rfl⟩ : ∃ m : Nat, n = (m : Int) := ⟨n.toNat, by have := hv.lo; omega⟩
  have e := hls_around hv hr
  unfold arounds froms
  rw [if_pos h, e, if_pos h]
theorem froms_bad {n : Int} {es : List (Int × Int)} {ls : List (List Int)} (h : (check n es ls).2 ≠ 0) : froms n es (arounds n es ls) = [] ∧ arounds n es ls = [] := by
  unfold arounds froms
  rw [if_neg h]
  refine ⟨?_, rfl⟩
  split <;> rfl
theorem froms_few {n : Int} {es : List (Int × Int)} {ls : List (List Int)} {K : Nat} (hl : ∀ l ∈ ls, l.length ≤ K) : (froms n es (arounds n es ls)).length ≤ ls.length ∧ ∀ l ∈ froms n es (arounds n es ls), l.length ≤ K := by
  by_cases h : (check n es ls).2 = 0
  · rw [froms_ok h]
    exact ⟨Nat.le_refl _, hl⟩
  · rw [(froms_bad h).1]
    exact ⟨by simp, fun l h => by simp at h⟩
theorem arounds_few {n : Int} {es : List (Int × Int)} {ls : List (List Int)} {K : Nat} (hl : ∀ l ∈ ls, l.length ≤ K) : (arounds n es ls).length ≤ ls.length ∧ ∀ l ∈ arounds n es ls, l.length ≤ K := by
  unfold arounds
  split
  · refine ⟨by simp [around], fun l h => ?_⟩
    unfold around at h
    obtain ⟨l0, h0, rfl⟩ := List.mem_map.1 h
    rw [toL_len]
    exact hl l0 h0
  · exact ⟨by simp, fun l h => by simp at h⟩
end Ro

namespace lawRM
section
variable {G0 H B gM cM : Nat} {n : Int} {ao : Option Addr} {ca : Nat} {es : List (Int × Int)} {xo : Option Addr} {ls : List (List Int)} {mo : Option Addr} {mc : Nat} {ms : List Value} {wo : Option Addr} {qw wc : Nat} {ws : List Value} {w V : World} {xc : Nat} {to : Option Addr} {tc : Nat}

set_option maxRecDepth 100000 in
set_option maxHeartbeats 16000000 in
theorem rounds0 {t0 t3 t4 t8 t9 t10 t13 t14 t15 t16 t17 t18 t19 t20 t21 t22 t23 t24 t25 t26 t27 t28 t29 t30 t31 t32 t33 t34 t35 t36 t37 t38 t39 t40 t41 t42 t43 t44 t45 t46 t47 t48 t49 t50 t51 t52 t53 t54 t55 t56 t57 t58 t59 t60 t61 t62 t63 t64 t65 t66 t67 t68 t69 t70 t71 t72 t73 t74 t75 t76 t77 t78 t79 t80 t81 t82 t83 t84 t85 t86 t87 t88 t89 t90 t91 t92 t93 t94 t95 t96 t97 t98 t99 t100 t101 t102 t103 t104 t105 t106 t107 t108 t109 t110 t111 t112 t113 t114 t115 t116 t117 t118 t119 t120 t121 t122 t123 t124 t125 t126 t127 t128 t129 t130 t131 t132 t133 t134 t135 t136 t137 t138 t139 t140 t141 t142 t143 t144 t145 t146 t147 t148 t149 t150 t151 t152 t153 t154 t155 t156 t157 t158 t159 t160 t161 t162 t163 t164 t165 t166 t167 t168 t169 t170 t171 t172 t173 t174 t175 t176 t177 t178 t179 t180 t181 t182 t183 t184 t185 t186 t187 t188 : Value} {wvs : List Value} {B3 : Nat} (hM : Mem G0 H B gM cM n ao ca es xo ls mo mc ms wo qw wc ws V) (hT : RowsZ V B3 (.slice to (Ro.arounds n es ls).length tc) wvs (Ro.arounds n es ls)) (hl : es.length * 16 ≤ 140737488351232) (hN : ls.length ≤ 1048576) (hll : ∀ l ∈ ls, l.length ≤ 1048576) (hbel : Below w.heap.size w V) (hE : (Ro.check n es ls).2 = 0) :
    Code.wp Try.prog (spine 7 (Try.f4.body.getD .skip)) (bodyPost Try.prog Try.f4 fun e w' => e = .returned (.bool true) ∧ Below w.heap.size w w') { tmps := #[t0, .slice xo ls.length xc, .pointer (some ⟨G0, 0, none⟩), t3, t4, .pointer (some ⟨H, 0, none⟩), .slice mo ls.length mc, .slice wo qw wc, t8, t9, t10, .slice to (Ro.arounds n es ls).length tc, .int .i64 (Ro.check n es ls).2, t13, t14, t15, t16, t17, t18, t19, t20, t21, t22, t23, t24, t25, t26, t27, t28, t29, t30, t31, t32, t33, t34, t35, t36, t37, t38, t39, t40, t41, t42, t43, t44, t45, t46, t47, t48, t49, t50, t51, t52, t53, t54, t55, t56, t57, t58, t59, t60, t61, t62, t63, t64, t65, t66, t67, t68, t69, t70, t71, t72, t73, t74, t75, t76, t77, t78, t79, t80, t81, t82, t83, t84, t85, t86, t87, t88, t89, t90, t91, t92, t93, t94, t95, t96, t97, t98, t99, t100, t101, t102, t103, t104, t105, t106, t107, t108, t109, t110, t111, t112, t113, t114, t115, t116, t117, t118, t119, t120, t121, t122, t123, t124, t125, t126, t127, t128, t129, t130, t131, t132, t133, t134, t135, t136, t137, t138, t139, t140, t141, t142, t143, t144, t145, t146, t147, t148, t149, t150, t151, t152, t153, t154, t155, t156, t157, t158, t159, t160, t161, t162, t163, t164, t165, t166, t167, t168, t169, t170, t171, t172, t173, t174, t175, t176, t177, t178, t179, t180, t181, t182, t183, t184, t185, t186, t187, t188], defers := [] } V := by
  have HK : Hid (∀ U, Below V.heap.size V U → Mem G0 H B gM cM n ao ca es xo ls mo mc ms wo qw wc ws U) := fun U hU => hM.later hU
  have HM0 := Nu.hid hM
  have HL0 : Hid (es.length * 16 ≤ 140737488351232) := hl
  have HBEL := Nu.hid hbel
  have HLL := Nu.hid hll
  have hlen : es.length ≤ 4611686018427387904 := by omega
  have hbig : ∀ l ∈ ls, l.length ≤ 17592186043904 := fun l h => by have := hll l h; omega
  obtain ⟨W, hW⟩ : ∃ W, W = Ro.arounds n es ls := ⟨_, rfl⟩
  obtain ⟨E, hEE⟩ : ∃ E, E = (Ro.check n es ls).2 := ⟨_, rfl⟩
  have hwf := Ro.arounds_few (n := n) (es := es) hll
  have hff := Ro.froms_few (n := n) (es := es) hll
  have HWB : Hid (∀ l ∈ W, l.length ≤ 17592186043904) := fun l h => by rw [hW] at h; have := hwf.2 l h; omega
  have HMR : Hid (∀ U, Below V.heap.size V U → RwsAt U mo ls) := fun U hU => by
    obtain ⟨o, c, e, h, -⟩ := (hM.later hU).mine.rws hbig
    cases e
    exact h
  have HTR : Hid (∀ U, Below V.heap.size V U → RwsAt U to W) := fun U hU => by
    have h1 := hT.later hU
    rw [← hW] at h1
    obtain ⟨o, c, e, h, -⟩ := h1.rws HWB.out
    cases e
    exact h
  have HNX : Hid (∀ U, Below V.heap.size V U → Calls Try.prog 13 #[.agg #[.int .i64 n, .slice (some ⟨gM, 0, none⟩) es.length cM], .slice mo ls.length mc] U (NextP n es ls U)) := fun U hU => rnext_any n (some ⟨gM, 0, none⟩) cM es mo mc ls U (hM.later hU).eh hlen (HMR.out U hU)
  have HAR : Hid (∀ U, Below V.heap.size V U → Calls Try.prog 8 #[.agg #[.int .i64 n, .slice (some ⟨gM, 0, none⟩) es.length cM], .slice mo ls.length mc] U (AroundP n es ls U)) := fun U hU => around_any n (some ⟨gM, 0, none⟩) cM es mo mc ls U (hM.later hU).eh hlen (HMR.out U hU)
  have HFR : Hid (∀ U, Below V.heap.size V U → Calls Try.prog 7 #[.agg #[.int .i64 n, .slice (some ⟨gM, 0, none⟩) es.length cM], .slice to W.length tc] U (FromP n es W U)) := fun U hU => from_any11 n (some ⟨gM, 0, none⟩) cM es to tc W U (hM.later hU).eh hlen (HTR.out U hU)
  have HCN : Hid (∀ U, Below V.heap.size V U → Calls Try.prog 14 #[.slice mo ls.length mc] U (RowsPost (ls.map Ro.canon1) U)) := fun U hU => canon_any mo mc ls U (HMR.out U hU) (by omega)
  have HMI : Hid (∀ U, Below V.heap.size V U → Calls Try.prog 16 #[.slice mo ls.length mc] U (RowsPost (ls.map (fun l => Ro.canon1 l.reverse)) U)) := fun U hU => mirror_any mo mc ls U (HMR.out U hU) (by omega)
  have HRC : Hid (∀ U, Below V.heap.size V U → Calls Try.prog 15 #[.slice xo ls.length xc] U (RowsPost (ls.map Ro.canon1) U)) := fun U hU => r11canon_any xo xc ls U (hM.later hU).rows (by omega)
  have HWF : Hid (W.length ≤ ls.length ∧ (∀ l ∈ W, l.length ≤ 1048576) ∧ (Ro.froms n es W).length ≤ ls.length ∧ ∀ l ∈ Ro.froms n es W, l.length ≤ 1048576) := by rw [hW]; exact ⟨hwf.1, hwf.2, hff.1, hff.2⟩
  have HE : Hid (Ro.froms n es W = ls) := by rw [hW]; exact Ro.froms_ok hE
  have HWW := Nu.hid hW
  have HEE := Nu.hid hEE
  rw [← hEE] at hE
  rw [← hW, ← hEE]
  subst hE
  have te : ((0 : Int) == 0) = true := rfl
  have tn : ((0 : Int) != 0) = false := rfl
  clear hM hT hl hbel hll hbig hwf hff hW hEE 
  simp only [Try.f4, Option.getD, spine]
  go_wp2
  go_loopw [13, 14] (fun c13 c14 wr => ∃ (k : Nat) (vs : List Value) (L : List (List Int)), k ≤ 6 ∧ c14 = .int .i64 (k : Int) ∧ RowsZ wr V.heap.size c13 vs L ∧ L.length ≤ k * 4194305 ∧ (∀ l ∈ L, l.length ≤ 8388608) ∧ Below V.heap.size V wr) (fun _ c14 _ => 6 - (intOf c14).toNat)
  case atStart => exact ⟨0, [], [], Nat.zero_le _, rfl, RowsZ.nil _ _, Nat.zero_le _, (fun l hl => by simp at hl), Below.refl _ _⟩
  case round =>
    obtain ⟨k, vs, L, hk, rfl, hR, hLn, hLl, hb⟩ := hrel
    obtain ⟨W0, rfl⟩ : ∃ W0, W0 = wr := ⟨_, rfl⟩
    obtain ⟨uo, uc, hu13⟩ := row_shape hR
    subst hu13
    by_cases hk6 : k < 6
    · have hk6' : (k : Int) < 6 := by omega
      have HK6 := Nu.hid hk6
      have HR := Nu.hid hR
      have HLN := Nu.hid hLn
      have HLLL := Nu.hid hLl
      have HB := Nu.hid hb
      obtain ⟨ql, hql⟩ : ∃ q, q = L.length := ⟨_, rfl⟩
      rw [← hql] at HR ⊢
      have HQL := Nu.hid hql
      have HN := Nu.hid (HNX.out W0 hb)
      obtain ⟨-, -, h0, h1, hlt0, -, -, -, -, -⟩ := HK.out W0 hb
      clear hR hLn hLl hb hk hk6 hql
      go_wp2_with (go_at_call 13; refine HN.out.mono ?_; intro e w5 hp; obtain ⟨po, pk, pq, L1, cc, rfl, ho5, hl5, hb5⟩ := hp.form; refine Hid.out ?_)
      refine Nu.hid ?_
      have hB5 : Below V.heap.size V w5 := HB.out.trans (hb5.mono HB.out.size)
      have HO5 := Nu.hid ho5
      have HL5 := Nu.hid hl5
      have HB05 := Nu.hid hb5
      have HB5 := Nu.hid hB5
      have HA := Nu.hid (HAR.out w5 hB5)
      clear h0 h1 hlt0
      obtain ⟨-, -, h0, h1, hlt0, -, -, -, -, -⟩ := HK.out w5 hB5
      clear hp ho5 hl5 hb5 hB5 HN
      go_wp2_with (go_at_call 8; refine HA.out.mono ?_; intro e w6 hp; obtain ⟨qo, qq, qs, rfl, hr6, hb6⟩ := hp.form; rw [← HWW.out, ← HEE.out]; rw [← HWW.out] at hr6; refine Hid.out ?_)
      refine Nu.hid ?_
      have hB6 : Below V.heap.size V w6 := HB5.out.trans (hb6.mono HB5.out.size)
      have HR6 := Nu.hid hr6
      have HB56 := Nu.hid hb6
      have HB6 := Nu.hid hB6
      have HF := Nu.hid (HFR.out w6 hB6)
      clear h0 h1 hlt0
      obtain ⟨-, -, h0, h1, hlt0, -, -, -, -, -⟩ := HK.out w6 hB6
      clear hp hr6 hb6 hB6 HA
      go_wp2_with (go_at_call 7; refine HF.out.mono ?_; intro e w7 hp; obtain ⟨so, sq, ss, ca1, ca2, rfl, hr7, hb7⟩ := hp.form; refine Hid.out ?_)
      refine Nu.hid ?_
      have hB7 : Below V.heap.size V w7 := HB6.out.trans (hb7.mono HB6.out.size)
      have HR7 := Nu.hid hr7
      have HB67 := Nu.hid hb7
      have HB7 := Nu.hid hB7
      have HEQ1 : Hid (Calls Try.prog 9 #[.slice qo W.length qq, .slice to W.length tc] w7 fun e w' => e = .returned (.bool true) ∧ Below w7.heap.size w7 w') := by
        obtain ⟨o, c, e, h, -⟩ := (HR6.out.later hb7).rws HWB.out
        cases e
        refine (equal11_any qo to qq tc W W w7 h (HTR.out w7 hB7) (by have := HWF.out.1; omega)).mono ?_
        rintro e w' ⟨h1, h2⟩
        exact ⟨by rw [h1]; simp, h2⟩
      have HCNa := HCN
      have HRCa := HRC
      -- what comes of the two canons
      have HCQ : Hid (∀ U, Below V.heap.size V U → Calls Try.prog 14 #[.slice mo ls.length mc] U fun e w' => ∃ o c vs, e = .returned (.slice o ls.length c) ∧ RowsZ w' U.heap.size (.slice o ls.length c) vs (ls.map Ro.canon1) ∧ Below U.heap.size U w') := fun U hU => by
        refine (HCN.out U hU).mono ?_
        rintro e w' ⟨v, vs, rfl, hr, hb⟩
        obtain ⟨o, c, rfl⟩ := row_shape hr
        rw [List.length_map] at hr ⊢
        exact ⟨o, c, vs, rfl, hr, hb⟩
      have HRQ : Hid (∀ U, Below V.heap.size V U → Calls Try.prog 15 #[.slice xo ls.length xc] U fun e w' => ∃ o c vs, e = .returned (.slice o ls.length c) ∧ RowsZ w' U.heap.size (.slice o ls.length c) vs (ls.map Ro.canon1) ∧ Below U.heap.size U w') := fun U hU => by
        refine (HRC.out U hU).mono ?_
        rintro e w' ⟨v, vs, rfl, hr, hb⟩
        obtain ⟨o, c, rfl⟩ := row_shape hr
        rw [List.length_map] at hr ⊢
        exact ⟨o, c, vs, rfl, hr, hb⟩
      have HMQ : Hid (∀ U, Below V.heap.size V U → Calls Try.prog 16 #[.slice mo ls.length mc] U fun e w' => ∃ o c vs, e = .returned (.slice o ls.length c) ∧ RowsZ w' U.heap.size (.slice o ls.length c) vs (ls.map (fun l => Ro.canon1 l.reverse)) ∧ Below U.heap.size U w') := fun U hU => by
        refine (HMI.out U hU).mono ?_
        rintro e w' ⟨v, vs, rfl, hr, hb⟩
        obtain ⟨o, c, rfl⟩ := row_shape hr
        rw [List.length_map] at hr ⊢
        exact ⟨o, c, vs, rfl, hr, hb⟩
      have HCB : Hid (∀ l ∈ ls.map Ro.canon1, l.length ≤ 1048576) := fun l h => by
        obtain ⟨l0, h0, rfl⟩ := List.mem_map.1 h
        rw [Ro.canon1_len]
        exact HLL.out l0 h0
      have HMB : Hid (∀ l ∈ ls.map (fun l => Ro.canon1 l.reverse), l.length ≤ 1048576) := fun l h => by
        obtain ⟨l0, h0, rfl⟩ := List.mem_map.1 h
        rw [Ro.canon1_len, List.length_reverse]
        exact HLL.out l0 h0
      clear hp hr7 hb7 hB7 HF h0 h1 hlt0
      go_wp2_with (go_at_call 9; refine HEQ1.out.mono ?_; rintro e w8 ⟨rfl, hb8⟩; refine Hid.out ?_)
      refine Nu.hid ?_
      have hB8 : Below V.heap.size V w8 := HB7.out.trans (hb8.mono HB7.out.size)
      have HB78 := Nu.hid hb8
      have HB8 := Nu.hid hB8
      have HC1 := Nu.hid (HCQ.out w8 hB8)
      clear hb8 hB8 HEQ1
      go_wp2_with (go_at_call 14; refine HC1.out.mono ?_; rintro e w9 ⟨o1, c1, vs1, rfl, hr9, hb9⟩; refine Hid.out ?_)
      refine Nu.hid ?_
      have hB9 : Below V.heap.size V w9 := HB8.out.trans (hb9.mono HB8.out.size)
      have HB89 := Nu.hid hb9
      have HB9 := Nu.hid hB9
      have HR9 := Nu.hid hr9
      have HC2 := Nu.hid (HRQ.out w9 hB9)
      clear hb9 hB9 hr9 HC1
      go_wp2_with (go_at_call 15; refine HC2.out.mono ?_; rintro e w10 ⟨o2, c2, vs2, rfl, hr10, hb10⟩; refine Hid.out ?_)
      refine Nu.hid ?_
      have hB10 : Below V.heap.size V w10 := HB9.out.trans (hb10.mono HB9.out.size)
      have HB910 := Nu.hid hb10
      have HB10 := Nu.hid hB10
      have HEQ2 : Hid (Calls Try.prog 9 #[.slice o1 ls.length c1, .slice o2 ls.length c2] w10 fun e w' => e = .returned (.bool true) ∧ Below w10.heap.size w10 w') := by
        have hml : (ls.map Ro.canon1).length = ls.length := List.length_map _
        obtain ⟨o, c, e, h, -⟩ := (HR9.out.later hb10).rws (fun l h => by have := HCB.out l h; omega)
        obtain ⟨o', c', e', h', -⟩ := hr10.rws (fun l h => by have := HCB.out l h; omega)
        rw [hml] at e e'
        cases e
        cases e'
        have := equal11_any o1 o2 c1 c2 (ls.map Ro.canon1) (ls.map Ro.canon1) w10 h h' (by rw [hml]; omega)
        rw [hml] at this
        refine this.mono ?_
        rintro e w' ⟨h1, h2⟩
        exact ⟨by rw [h1]; simp, h2⟩
      clear hb10 hB10 hr10 HC2
      go_wp2_with (go_at_call 9; refine HEQ2.out.mono ?_; rintro e w11 ⟨rfl, hb11⟩; refine Hid.out ?_)
      refine Nu.hid ?_
      have hB11 : Below V.heap.size V w11 := HB10.out.trans (hb11.mono HB10.out.size)
      have HB7X : Hid (Below w7.heap.size w7 w11) := HB78.out.trans ((HB89.out.trans ((HB910.out.trans (hb11.mono HB910.out.size)).mono HB89.out.size)).mono HB78.out.size)
      have HB11 := Nu.hid hB11
      have HEQ3 : Hid (Calls Try.prog 9 #[.slice so (Ro.froms n es W).length sq, .slice xo ls.length xc] w11 fun e w' => e = .returned (.bool true) ∧ Below w11.heap.size w11 w') := by
        obtain ⟨o, c, e, h, -⟩ := (HR7.out.later HB7X.out).rws (fun l h => by have := HWF.out.2.2.2 l h; omega)
        cases e
        refine (equal11_any so xo sq xc (Ro.froms n es W) ls w11 h (HK.out w11 hB11).rows (by have := HWF.out.2.2.1; omega)).mono ?_
        rintro e w' ⟨h1, h2⟩
        exact ⟨by rw [h1, HE.out]; simp, h2⟩
      clear hb11 hB11 HEQ2
      obtain ⟨fq, hfq⟩ : ∃ q, q = (Ro.froms n es W).length := ⟨_, rfl⟩
      rw [← hfq] at HEQ3 HR7 ⊢
      have HFQ := Nu.hid hfq
      clear hfq
      go_wp2_with (go_at_call 9; refine HEQ3.out.mono ?_; rintro e w12 ⟨rfl, hb12⟩; refine Hid.out ?_)
      refine Nu.hid ?_
      have hB12 : Below V.heap.size V w12 := HB11.out.trans (hb12.mono HB11.out.size)
      have hb7X : Below w7.heap.size w7 w12 := HB7X.out.trans (hb12.mono HB7X.out.size)
      obtain ⟨X0, hX0⟩ : ∃ X, X = w12 := ⟨_, rfl⟩
      rw [← hX0] at hB12 hb7X ⊢
      clear hb12 hX0 HEQ3
      have hsV := HB.out.size
      have hs05 := HB05.out.size
      have hs56 := HB56.out.size
      have hs67 := HB67.out.size
      have hs7X := hb7X.size
      have HBX0 := Nu.hid hB12
      have hb6X := HB67.out.trans (hb7X.mono HB67.out.size)
      have hb5X := HB56.out.trans (hb6X.mono HB56.out.size)
      have HRX := Nu.hid (HR.out.later (HB05.out.trans (hb5X.mono HB05.out.size)))
      have HOX := Nu.hid (HO5.out.later hb5X)
      have HAX := Nu.hid (HR6.out.later hb6X)
      have HFX := Nu.hid (HR7.out.later hb7X)
      have HRW : Hid (∀ b, ((Value.slice uo ql uc).ownBlock = some b ∨ inV vs b) → b < W0.heap.size) := fun b hb => (HR.out.within hb).2
      have HOW : Hid (∀ b, (Value.slice po pk pq).ownBlock = some b → W0.heap.size ≤ b ∧ b < w5.heap.size) := fun b hb => HO5.out.lt hb
      have HAW : Hid (∀ b, inV qs b → w5.heap.size ≤ b ∧ b < w6.heap.size) := fun b hb => HR6.out.within (.inr hb)
      have HAW' : Hid (∀ b, (Value.slice qo W.length qq).ownBlock = some b → w5.heap.size ≤ b ∧ b < w6.heap.size) := fun b hb => HR6.out.within (.inl hb)
      have HFW : Hid (∀ b, inV ss b → w6.heap.size ≤ b ∧ b < w7.heap.size) := fun b hb => HR7.out.within (.inr hb)
      have HFW' : Hid (∀ b, (Value.slice so fq sq).ownBlock = some b → w6.heap.size ≤ b ∧ b < w7.heap.size) := fun b hb => HR7.out.within (.inl hb)
      have hLb : L.length + 4194305 ≤ 30000000 := by have h1 := HLN.out; have h2 := HK6.out; omega
      clear hB12 hb7X hb6X hb5X
      go_wp2_with (at_builtin; refine wpList_pushRowG rfl _ _ 25 Try.underlying25 rfl X0 V.heap.size (.slice uo ql uc) vs L (.slice po pk pq) L1 HRX.out (HOX.out.lower hsV) (fun u z b hz hzb e => by have h1 := HRW.out b (.inr ⟨u, z, hz, hzb⟩); have h2 := HOW.out b e; omega) (fun b hb e => by have h1 := HRW.out b (.inl hb); have h2 := HOW.out b e; omega) (by omega) (by omega) rfl rfl ?_; refine Hid.out ?_)
      refine Nu.hid ?_
      intro v1 X1 hr1 hk1 hv1 hbX1
      obtain ⟨vs1, hvs1⟩ : ∃ l, l = vs ++ [Value.slice po pk pq] := ⟨_, rfl⟩
      obtain ⟨LA1, hLA1⟩ : ∃ l, l = L ++ [L1] := ⟨_, rfl⟩
      rw [← hvs1, ← hLA1] at hr1
      have HLA1 : Hid (LA1.length = L.length + 1 ∧ ∀ l ∈ LA1, l.length ≤ 8388608) := by
        refine Nu.hid ⟨by rw [hLA1]; simp, fun l h => ?_⟩
        rw [hLA1] at h
        rcases List.mem_append.1 h with h | h
        · exact HLLL.out l h
        · rw [List.mem_singleton.1 h]
          exact HL5.out
      have hsX1 : X0.heap.size ≤ X1.heap.size := by
        rcases hv1 with e | e
        · exact hbX1.size
        · exact hbX1.size
      have HBX1 := Nu.hid (HBX0.out.trans hbX1)
      have HV1 : Hid (∀ b, (v1.ownBlock = some b ∨ inV vs1 b) → b < w5.heap.size ∨ X0.heap.size ≤ b) := fun b hb => by
        rw [hvs1] at hb
        rcases hb with hb | hb
        · rcases hv1 with e | e
          · rw [e] at hb
            have := HRW.out b (.inl hb)
            omega
          · exact .inr (e b hb)
        · rcases inV_append.1 hb with hb | hb
          · have := HRW.out b (.inr hb)
            omega
          · have := HOW.out b (inV_one.1 hb)
            omega
      have HP1 : Hid (∀ b, W0.heap.size ≤ b → b < X0.heap.size → X1.heap[b]? = X0.heap[b]?) := fun b h1 h2 => hk1 b h2 (fun e => by have := HRW.out b (.inl e); omega)
      obtain ⟨a1, n1, k1, rfl⟩ : ∃ a n c, v1 = .slice a n c := by
        obtain ⟨a, c, e⟩ := row_shape hr1
        exact ⟨_, _, _, e⟩
      have HR1 := Nu.hid hr1
      have HA1 : Hid (RowsZ X1 w5.heap.size (.slice qo W.length qq) qs W) := HAX.out.kept fun b hb _ => by
        have : w5.heap.size ≤ b ∧ b < w6.heap.size := by
          rcases hb with hb | hb
          · exact HAW'.out b hb
          · exact HAW.out b hb
        exact HP1.out b (by omega) (by omega)
      clear hr1 hk1 hv1 hbX1 hvs1 hLA1
      go_wp2_with (at_builtin; refine wpList_extendRows rfl _ _ 25 Try.underlying25 rfl X1 V.heap.size (.slice a1 n1 k1) _ _ HR1.out (by omega) w5.heap.size (.slice qo W.length qq) qs W HA1.out (by omega) (fun b h1 h2 => by have h3 := HAW.out b h1; have h4 := HV1.out b h2; omega) (by have := HWF.out.1; have := HLA1.out.1; omega) rfl rfl ?_; refine Hid.out ?_)
      refine Nu.hid ?_
      intro v2 X2 hr2 hg2 hv2
      obtain ⟨vs2', hvs2⟩ : ∃ l, l = vs1 ++ qs := ⟨_, rfl⟩
      obtain ⟨LA2, hLA2⟩ : ∃ l, l = LA1 ++ W := ⟨_, rfl⟩
      rw [← hvs2, ← hLA2] at hr2
      have HLA2 : Hid (LA2.length = LA1.length + W.length ∧ ∀ l ∈ LA2, l.length ≤ 8388608) := by
        refine Nu.hid ⟨by rw [hLA2, List.length_append], fun l h => ?_⟩
        rw [hLA2] at h
        rcases List.mem_append.1 h with h | h
        · exact HLA1.out.2 l h
        · have := HWF.out.2.1 l h
          omega
      have hsX2 := hg2.size
      have HV1lt : Hid (∀ b, (Value.slice a1 n1 k1).ownBlock = some b → V.heap.size ≤ b) := fun b hb => (HR1.out.within (.inl hb)).1
      have HBX2 := Nu.hid (HBX1.out.grown hg2 (by omega) HV1lt.out)
      have HV2 : Hid (∀ b, (v2.ownBlock = some b ∨ inV vs2' b) → b < w6.heap.size ∨ X0.heap.size ≤ b) := fun b hb => by
        rw [hvs2] at hb
        rcases hb with hb | hb
        · rcases hv2 with e | e
          · rw [e] at hb
            have := HV1.out b (.inl hb)
            omega
          · rw [e] at hb
            have := Option.some.inj hb
            omega
        · rcases inV_append.1 hb with hb | hb
          · have := HV1.out b (.inr hb)
            omega
          · have := HAW.out b hb
            omega
      have HP2 : Hid (∀ b, w5.heap.size ≤ b → b < X0.heap.size → X2.heap[b]? = X0.heap[b]?) := fun b h1 h2 => by
        rw [← HP1.out b (by omega) h2]
        exact hg2.block b (by omega) (fun e => by have := HV1.out b (.inl e.symm); omega)
      obtain ⟨a2, n2, k2, rfl⟩ : ∃ a n c, v2 = .slice a n c := by
        obtain ⟨a, c, e⟩ := row_shape hr2
        exact ⟨_, _, _, e⟩
      have HR2 := Nu.hid hr2
      have HF2 : Hid (RowsZ X2 w6.heap.size (.slice so fq sq) ss (Ro.froms n es W)) := HFX.out.kept fun b hb _ => by
        have : w6.heap.size ≤ b ∧ b < w7.heap.size := by
          rcases hb with hb | hb
          · exact HFW'.out b hb
          · exact HFW.out b hb
        exact HP2.out b (by omega) (by omega)
      clear hr2 hg2 hv2 hvs2 hLA2
      go_wp2_with (at_builtin; refine wpList_extendRows rfl _ _ 26 Try.underlying26 rfl X2 V.heap.size (.slice a2 n2 k2) _ _ HR2.out (by omega) w6.heap.size (.slice so fq sq) ss (Ro.froms n es W) HF2.out (by omega) (fun b h1 h2 => by have h3 := HFW.out b h1; have h4 := HV2.out b h2; omega) (by have := HWF.out.1; have := HWF.out.2.2.1; have := HLA1.out.1; have := HLA2.out.1; omega) rfl rfl ?_; refine Hid.out ?_)
      refine Nu.hid ?_
      intro v3 X3 hr3 hg3 hv3
      obtain ⟨LA3, hLA3⟩ : ∃ l, l = LA2 ++ Ro.froms n es W := ⟨_, rfl⟩
      obtain ⟨vb3, hvb3⟩ : ∃ l, l = vs2' ++ ss := ⟨_, rfl⟩
      rw [← hvb3, ← hLA3] at hr3
      have HLA3 : Hid (LA3.length = LA2.length + (Ro.froms n es W).length ∧ ∀ l ∈ LA3, l.length ≤ 8388608) := by
        refine Nu.hid ⟨by rw [hLA3, List.length_append], fun l h => ?_⟩
        rw [hLA3] at h
        rcases List.mem_append.1 h with h | h
        · exact HLA2.out.2 l h
        · have := HWF.out.2.2.2 l h
          omega
      have hsX3 := hg3.size
      have HBX3 := Nu.hid (HBX2.out.grown hg3 (by omega) (fun b hb => (HR2.out.within (.inl hb)).1))
      obtain ⟨a3, n3, k3, rfl⟩ : ∃ a n c, v3 = .slice a n c := by
        obtain ⟨a, c, e⟩ := row_shape hr3
        exact ⟨_, _, _, e⟩
      have HR3 := Nu.hid hr3
      have HC3 := Nu.hid (HCQ.out X3 HBX3.out)
      clear hr3 hg3 hv3 hvb3 hLA3
      go_wp2_with (go_at_call 14; refine HC3.out.mono ?_; rintro e X4 ⟨o4, c4, vs4, rfl, hr4, hb4⟩; refine Hid.out ?_)
      refine Nu.hid ?_
      have hsX4 := hb4.size
      have HBX4 := Nu.hid (HBX3.out.trans (hb4.mono HBX3.out.size))
      have HR34 := Nu.hid (HR3.out.later hb4)
      have HR4 := Nu.hid hr4
      clear hr4 hb4
      go_wp2_with (at_builtin; refine wpList_extendRows rfl _ _ 26 Try.underlying26 rfl X4 V.heap.size (.slice a3 n3 k3) _ _ HR34.out (by omega) X3.heap.size (.slice o4 ls.length c4) vs4 (ls.map Ro.canon1) HR4.out (by omega) (fun b h1 h2 => by have h3 := (HR4.out.within (.inr h1)).1; have h4 := (HR3.out.within h2).2; omega) (by have := HWF.out.1; have := HWF.out.2.2.1; have := HLA1.out.1; have := HLA2.out.1; have := HLA3.out.1; rw [List.length_map]; omega) rfl rfl ?_; refine Hid.out ?_)
      refine Nu.hid ?_
      intro v5 X5 hr5 hg5 hv5
      obtain ⟨LA5, hLA5⟩ : ∃ l, l = LA3 ++ ls.map Ro.canon1 := ⟨_, rfl⟩
      obtain ⟨vb5, hvb5⟩ : ∃ l, l = vb3 ++ vs4 := ⟨_, rfl⟩
      rw [← hvb5, ← hLA5] at hr5
      have HLA5 : Hid (LA5.length = LA3.length + (ls.map Ro.canon1).length ∧ ∀ l ∈ LA5, l.length ≤ 8388608) := by
        refine Nu.hid ⟨by rw [hLA5, List.length_append], fun l h => ?_⟩
        rw [hLA5] at h
        rcases List.mem_append.1 h with h | h
        · exact HLA3.out.2 l h
        · have := HCB.out l h
          omega
      have hsX5 := hg5.size
      have HBX5 := Nu.hid (HBX4.out.grown hg5 (by omega) (fun b hb => (HR34.out.within (.inl hb)).1))
      obtain ⟨a5, n5, k5, rfl⟩ : ∃ a n c, v5 = .slice a n c := by
        obtain ⟨a, c, e⟩ := row_shape hr5
        exact ⟨_, _, _, e⟩
      have HR5 := Nu.hid hr5
      have HC5 := Nu.hid (HMQ.out X5 HBX5.out)
      clear hr5 hg5 hv5 hvb5 hLA5
      go_wp2_with (go_at_call 16; refine HC5.out.mono ?_; rintro e X6 ⟨o6, c6, vs6, rfl, hr6', hb6'⟩; refine Hid.out ?_)
      refine Nu.hid ?_
      have hsX6 := hb6'.size
      have HBX6 := Nu.hid (HBX5.out.trans (hb6'.mono HBX5.out.size))
      have HR56 := Nu.hid (HR5.out.later hb6')
      have HR6m := Nu.hid hr6'
      clear hr6' hb6'
      go_wp2_with (at_builtin; refine wpList_extendRows rfl _ _ 26 Try.underlying26 rfl X6 V.heap.size (.slice a5 n5 k5) _ _ HR56.out (by omega) X5.heap.size (.slice o6 ls.length c6) vs6 (ls.map (fun l => Ro.canon1 l.reverse)) HR6m.out (by omega) (fun b h1 h2 => by have h3 := (HR6m.out.within (.inr h1)).1; have h4 := (HR5.out.within h2).2; omega) (by have := HWF.out.1; have := HWF.out.2.2.1; have := HLA1.out.1; have := HLA2.out.1; have := HLA3.out.1; have h5 := HLA5.out.1; rw [List.length_map] at h5 ⊢; omega) rfl rfl ?_; refine Hid.out ?_)
      refine Nu.hid ?_
      intro v7 X7 hr7 hg7 hv7
      obtain ⟨LA7, hLA7⟩ : ∃ l, l = LA5 ++ ls.map (fun l => Ro.canon1 l.reverse) := ⟨_, rfl⟩
      obtain ⟨vb7, hvb7⟩ : ∃ l, l = vb5 ++ vs6 := ⟨_, rfl⟩
      rw [← hvb7, ← hLA7] at hr7
      have HLA7 : Hid (LA7.length = LA5.length + (ls.map (fun l => Ro.canon1 l.reverse)).length ∧ ∀ l ∈ LA7, l.length ≤ 8388608) := by
        refine Nu.hid ⟨by rw [hLA7, List.length_append], fun l h => ?_⟩
        rw [hLA7] at h
        rcases List.mem_append.1 h with h | h
        · exact HLA5.out.2 l h
        · have := HMB.out l h
          omega
      have HBX7 := Nu.hid (HBX6.out.grown hg7 (by omega) (fun b hb => (HR56.out.within (.inl hb)).1))
      have HR7e := Nu.hid hr7
      have HCNT : Hid (LA7.length ≤ (k + 1) * 4194305) := by
        have h1 := HWF.out.1
        have h2 := HWF.out.2.2.1
        have h3 := HLN.out
        have e1 := HLA1.out.1
        have e2 := HLA2.out.1
        have e3 := HLA3.out.1
        have e5 := HLA5.out.1
        have e7 := HLA7.out.1
        rw [List.length_map] at e5 e7
        show LA7.length ≤ (k + 1) * 4194305
        omega
      have hwk : IntKind.i64.wrap ((k : Int) + 1) = (k : Int) + 1 := by rw [IntKind.wrap_i64]; omega
      clear hr7 hg7 hv7 hvb7 hLA7
      go_wp2
      go_roundw
      case rel => exact ⟨k + 1, _, _, HK6.out, by go_num, HR7e.out, HCNT.out, HLA7.out.2, HBX7.out⟩
      case measure => have := HK6.out; simp [intOf]; omega
    · have hk6' : ¬ (k : Int) < 6 := by omega
      have HEND : Hid (L.length ≤ 100000000) := by have : L.length ≤ k * 4194305 := hLn; have : k ≤ 6 := hk; show L.length ≤ 100000000; omega
      have HR := Nu.hid hR
      have HLLL := Nu.hid hLl
      have HB := Nu.hid hb
      clear hR hLn hLl hb hk
      repeat (first | exact ends HM0.out HL0.out hN HLL.out HBEL.out HR.out HEND.out HLLL.out HB.out | go_step)

set_option maxRecDepth 100000 in
set_option maxHeartbeats 16000000 in
theorem rounds1 {t0 t3 t4 t8 t9 t10 t13 t14 t15 t16 t17 t18 t19 t20 t21 t22 t23 t24 t25 t26 t27 t28 t29 t30 t31 t32 t33 t34 t35 t36 t37 t38 t39 t40 t41 t42 t43 t44 t45 t46 t47 t48 t49 t50 t51 t52 t53 t54 t55 t56 t57 t58 t59 t60 t61 t62 t63 t64 t65 t66 t67 t68 t69 t70 t71 t72 t73 t74 t75 t76 t77 t78 t79 t80 t81 t82 t83 t84 t85 t86 t87 t88 t89 t90 t91 t92 t93 t94 t95 t96 t97 t98 t99 t100 t101 t102 t103 t104 t105 t106 t107 t108 t109 t110 t111 t112 t113 t114 t115 t116 t117 t118 t119 t120 t121 t122 t123 t124 t125 t126 t127 t128 t129 t130 t131 t132 t133 t134 t135 t136 t137 t138 t139 t140 t141 t142 t143 t144 t145 t146 t147 t148 t149 t150 t151 t152 t153 t154 t155 t156 t157 t158 t159 t160 t161 t162 t163 t164 t165 t166 t167 t168 t169 t170 t171 t172 t173 t174 t175 t176 t177 t178 t179 t180 t181 t182 t183 t184 t185 t186 t187 t188 : Value} {wvs : List Value} {B3 : Nat} (hM : Mem G0 H B gM cM n ao ca es xo ls mo mc ms wo qw wc ws V) (hT : RowsZ V B3 (.slice to (Ro.arounds n es ls).length tc) wvs (Ro.arounds n es ls)) (hl : es.length * 16 ≤ 140737488351232) (hN : ls.length ≤ 1048576) (hll : ∀ l ∈ ls, l.length ≤ 1048576) (hbel : Below w.heap.size w V) (hE : (Ro.check n es ls).2 ≠ 0) :
    Code.wp Try.prog (spine 7 (Try.f4.body.getD .skip)) (bodyPost Try.prog Try.f4 fun e w' => e = .returned (.bool true) ∧ Below w.heap.size w w') { tmps := #[t0, .slice xo ls.length xc, .pointer (some ⟨G0, 0, none⟩), t3, t4, .pointer (some ⟨H, 0, none⟩), .slice mo ls.length mc, .slice wo qw wc, t8, t9, t10, .slice to (Ro.arounds n es ls).length tc, .int .i64 (Ro.check n es ls).2, t13, t14, t15, t16, t17, t18, t19, t20, t21, t22, t23, t24, t25, t26, t27, t28, t29, t30, t31, t32, t33, t34, t35, t36, t37, t38, t39, t40, t41, t42, t43, t44, t45, t46, t47, t48, t49, t50, t51, t52, t53, t54, t55, t56, t57, t58, t59, t60, t61, t62, t63, t64, t65, t66, t67, t68, t69, t70, t71, t72, t73, t74, t75, t76, t77, t78, t79, t80, t81, t82, t83, t84, t85, t86, t87, t88, t89, t90, t91, t92, t93, t94, t95, t96, t97, t98, t99, t100, t101, t102, t103, t104, t105, t106, t107, t108, t109, t110, t111, t112, t113, t114, t115, t116, t117, t118, t119, t120, t121, t122, t123, t124, t125, t126, t127, t128, t129, t130, t131, t132, t133, t134, t135, t136, t137, t138, t139, t140, t141, t142, t143, t144, t145, t146, t147, t148, t149, t150, t151, t152, t153, t154, t155, t156, t157, t158, t159, t160, t161, t162, t163, t164, t165, t166, t167, t168, t169, t170, t171, t172, t173, t174, t175, t176, t177, t178, t179, t180, t181, t182, t183, t184, t185, t186, t187, t188], defers := [] } V := by
  have HK : Hid (∀ U, Below V.heap.size V U → Mem G0 H B gM cM n ao ca es xo ls mo mc ms wo qw wc ws U) := fun U hU => hM.later hU
  have HM0 := Nu.hid hM
  have HL0 : Hid (es.length * 16 ≤ 140737488351232) := hl
  have HBEL := Nu.hid hbel
  have HLL := Nu.hid hll
  have hlen : es.length ≤ 4611686018427387904 := by omega
  have hbig : ∀ l ∈ ls, l.length ≤ 17592186043904 := fun l h => by have := hll l h; omega
  obtain ⟨W, hW⟩ : ∃ W, W = Ro.arounds n es ls := ⟨_, rfl⟩
  obtain ⟨E, hEE⟩ : ∃ E, E = (Ro.check n es ls).2 := ⟨_, rfl⟩
  have hwf := Ro.arounds_few (n := n) (es := es) hll
  have hff := Ro.froms_few (n := n) (es := es) hll
  have HWB : Hid (∀ l ∈ W, l.length ≤ 17592186043904) := fun l h => by rw [hW] at h; have := hwf.2 l h; omega
  have HMR : Hid (∀ U, Below V.heap.size V U → RwsAt U mo ls) := fun U hU => by
    obtain ⟨o, c, e, h, -⟩ := (hM.later hU).mine.rws hbig
    cases e
    exact h
  have HTR : Hid (∀ U, Below V.heap.size V U → RwsAt U to W) := fun U hU => by
    have h1 := hT.later hU
    rw [← hW] at h1
    obtain ⟨o, c, e, h, -⟩ := h1.rws HWB.out
    cases e
    exact h
  have HNX : Hid (∀ U, Below V.heap.size V U → Calls Try.prog 13 #[.agg #[.int .i64 n, .slice (some ⟨gM, 0, none⟩) es.length cM], .slice mo ls.length mc] U (NextP n es ls U)) := fun U hU => rnext_any n (some ⟨gM, 0, none⟩) cM es mo mc ls U (hM.later hU).eh hlen (HMR.out U hU)
  have HAR : Hid (∀ U, Below V.heap.size V U → Calls Try.prog 8 #[.agg #[.int .i64 n, .slice (some ⟨gM, 0, none⟩) es.length cM], .slice mo ls.length mc] U (AroundP n es ls U)) := fun U hU => around_any n (some ⟨gM, 0, none⟩) cM es mo mc ls U (hM.later hU).eh hlen (HMR.out U hU)
  have HFR : Hid (∀ U, Below V.heap.size V U → Calls Try.prog 7 #[.agg #[.int .i64 n, .slice (some ⟨gM, 0, none⟩) es.length cM], .slice to W.length tc] U (FromP n es W U)) := fun U hU => from_any11 n (some ⟨gM, 0, none⟩) cM es to tc W U (hM.later hU).eh hlen (HTR.out U hU)
  have HCN : Hid (∀ U, Below V.heap.size V U → Calls Try.prog 14 #[.slice mo ls.length mc] U (RowsPost (ls.map Ro.canon1) U)) := fun U hU => canon_any mo mc ls U (HMR.out U hU) (by omega)
  have HMI : Hid (∀ U, Below V.heap.size V U → Calls Try.prog 16 #[.slice mo ls.length mc] U (RowsPost (ls.map (fun l => Ro.canon1 l.reverse)) U)) := fun U hU => mirror_any mo mc ls U (HMR.out U hU) (by omega)
  have HRC : Hid (∀ U, Below V.heap.size V U → Calls Try.prog 15 #[.slice xo ls.length xc] U (RowsPost (ls.map Ro.canon1) U)) := fun U hU => r11canon_any xo xc ls U (hM.later hU).rows (by omega)
  have HWF : Hid (W.length ≤ ls.length ∧ (∀ l ∈ W, l.length ≤ 1048576) ∧ (Ro.froms n es W).length ≤ ls.length ∧ ∀ l ∈ Ro.froms n es W, l.length ≤ 1048576) := by rw [hW]; exact ⟨hwf.1, hwf.2, hff.1, hff.2⟩
  have HE : Hid (Ro.froms n es W = []) := by rw [hW]; exact (Ro.froms_bad hE).1
  have HWW := Nu.hid hW
  have HEE := Nu.hid hEE
  rw [← hEE] at hE
  rw [← hW, ← hEE]
  have te : (E == 0) = false := by simpa using hE
  have tn : (E != E) = false := by simp
  clear hM hT hl hbel hll hbig hwf hff hW hEE hE
  simp only [Try.f4, Option.getD, spine]
  go_wp2
  go_loopw [13, 14] (fun c13 c14 wr => ∃ (k : Nat) (vs : List Value) (L : List (List Int)), k ≤ 6 ∧ c14 = .int .i64 (k : Int) ∧ RowsZ wr V.heap.size c13 vs L ∧ L.length ≤ k * 4194305 ∧ (∀ l ∈ L, l.length ≤ 8388608) ∧ Below V.heap.size V wr) (fun _ c14 _ => 6 - (intOf c14).toNat)
  case atStart => exact ⟨0, [], [], Nat.zero_le _, rfl, RowsZ.nil _ _, Nat.zero_le _, (fun l hl => by simp at hl), Below.refl _ _⟩
  case round =>
    obtain ⟨k, vs, L, hk, rfl, hR, hLn, hLl, hb⟩ := hrel
    obtain ⟨W0, rfl⟩ : ∃ W0, W0 = wr := ⟨_, rfl⟩
    obtain ⟨uo, uc, hu13⟩ := row_shape hR
    subst hu13
    by_cases hk6 : k < 6
    · have hk6' : (k : Int) < 6 := by omega
      have HK6 := Nu.hid hk6
      have HR := Nu.hid hR
      have HLN := Nu.hid hLn
      have HLLL := Nu.hid hLl
      have HB := Nu.hid hb
      obtain ⟨ql, hql⟩ : ∃ q, q = L.length := ⟨_, rfl⟩
      rw [← hql] at HR ⊢
      have HQL := Nu.hid hql
      have HN := Nu.hid (HNX.out W0 hb)
      obtain ⟨-, -, h0, h1, hlt0, -, -, -, -, -⟩ := HK.out W0 hb
      clear hR hLn hLl hb hk hk6 hql
      go_wp2_with (go_at_call 13; refine HN.out.mono ?_; intro e w5 hp; obtain ⟨po, pk, pq, L1, cc, rfl, ho5, hl5, hb5⟩ := hp.form; refine Hid.out ?_)
      refine Nu.hid ?_
      have hB5 : Below V.heap.size V w5 := HB.out.trans (hb5.mono HB.out.size)
      have HO5 := Nu.hid ho5
      have HL5 := Nu.hid hl5
      have HB05 := Nu.hid hb5
      have HB5 := Nu.hid hB5
      have HA := Nu.hid (HAR.out w5 hB5)
      clear h0 h1 hlt0
      obtain ⟨-, -, h0, h1, hlt0, -, -, -, -, -⟩ := HK.out w5 hB5
      clear hp ho5 hl5 hb5 hB5 HN
      go_wp2_with (go_at_call 8; refine HA.out.mono ?_; intro e w6 hp; obtain ⟨qo, qq, qs, rfl, hr6, hb6⟩ := hp.form; rw [← HWW.out, ← HEE.out]; rw [← HWW.out] at hr6; refine Hid.out ?_)
      refine Nu.hid ?_
      have hB6 : Below V.heap.size V w6 := HB5.out.trans (hb6.mono HB5.out.size)
      have HR6 := Nu.hid hr6
      have HB56 := Nu.hid hb6
      have HB6 := Nu.hid hB6
      have HF := Nu.hid (HFR.out w6 hB6)
      clear h0 h1 hlt0
      obtain ⟨-, -, h0, h1, hlt0, -, -, -, -, -⟩ := HK.out w6 hB6
      clear hp hr6 hb6 hB6 HA
      go_wp2_with (go_at_call 7; refine HF.out.mono ?_; intro e w7 hp; obtain ⟨so, sq, ss, ca1, ca2, rfl, hr7, hb7⟩ := hp.form; refine Hid.out ?_)
      refine Nu.hid ?_
      have hB7 : Below V.heap.size V w7 := HB6.out.trans (hb7.mono HB6.out.size)
      have HR7 := Nu.hid hr7
      have HB67 := Nu.hid hb7
      have HB7 := Nu.hid hB7
      have HEQ1 : Hid (Calls Try.prog 9 #[.slice qo W.length qq, .slice to W.length tc] w7 fun e w' => e = .returned (.bool true) ∧ Below w7.heap.size w7 w') := by
        obtain ⟨o, c, e, h, -⟩ := (HR6.out.later hb7).rws HWB.out
        cases e
        refine (equal11_any qo to qq tc W W w7 h (HTR.out w7 hB7) (by have := HWF.out.1; omega)).mono ?_
        rintro e w' ⟨h1, h2⟩
        exact ⟨by rw [h1]; simp, h2⟩
      have HCNa := HCN
      have HRCa := HRC
      -- what comes of the two canons
      have HCQ : Hid (∀ U, Below V.heap.size V U → Calls Try.prog 14 #[.slice mo ls.length mc] U fun e w' => ∃ o c vs, e = .returned (.slice o ls.length c) ∧ RowsZ w' U.heap.size (.slice o ls.length c) vs (ls.map Ro.canon1) ∧ Below U.heap.size U w') := fun U hU => by
        refine (HCN.out U hU).mono ?_
        rintro e w' ⟨v, vs, rfl, hr, hb⟩
        obtain ⟨o, c, rfl⟩ := row_shape hr
        rw [List.length_map] at hr ⊢
        exact ⟨o, c, vs, rfl, hr, hb⟩
      have HRQ : Hid (∀ U, Below V.heap.size V U → Calls Try.prog 15 #[.slice xo ls.length xc] U fun e w' => ∃ o c vs, e = .returned (.slice o ls.length c) ∧ RowsZ w' U.heap.size (.slice o ls.length c) vs (ls.map Ro.canon1) ∧ Below U.heap.size U w') := fun U hU => by
        refine (HRC.out U hU).mono ?_
        rintro e w' ⟨v, vs, rfl, hr, hb⟩
        obtain ⟨o, c, rfl⟩ := row_shape hr
        rw [List.length_map] at hr ⊢
        exact ⟨o, c, vs, rfl, hr, hb⟩
      have HMQ : Hid (∀ U, Below V.heap.size V U → Calls Try.prog 16 #[.slice mo ls.length mc] U fun e w' => ∃ o c vs, e = .returned (.slice o ls.length c) ∧ RowsZ w' U.heap.size (.slice o ls.length c) vs (ls.map (fun l => Ro.canon1 l.reverse)) ∧ Below U.heap.size U w') := fun U hU => by
        refine (HMI.out U hU).mono ?_
        rintro e w' ⟨v, vs, rfl, hr, hb⟩
        obtain ⟨o, c, rfl⟩ := row_shape hr
        rw [List.length_map] at hr ⊢
        exact ⟨o, c, vs, rfl, hr, hb⟩
      have HCB : Hid (∀ l ∈ ls.map Ro.canon1, l.length ≤ 1048576) := fun l h => by
        obtain ⟨l0, h0, rfl⟩ := List.mem_map.1 h
        rw [Ro.canon1_len]
        exact HLL.out l0 h0
      have HMB : Hid (∀ l ∈ ls.map (fun l => Ro.canon1 l.reverse), l.length ≤ 1048576) := fun l h => by
        obtain ⟨l0, h0, rfl⟩ := List.mem_map.1 h
        rw [Ro.canon1_len, List.length_reverse]
        exact HLL.out l0 h0
      clear hp hr7 hb7 hB7 HF h0 h1 hlt0
      go_wp2_with (go_at_call 9; refine HEQ1.out.mono ?_; rintro e w8 ⟨rfl, hb8⟩; refine Hid.out ?_)
      refine Nu.hid ?_
      have hB8 : Below V.heap.size V w8 := HB7.out.trans (hb8.mono HB7.out.size)
      have HB78 := Nu.hid hb8
      have HB8 := Nu.hid hB8
      have HC1 := Nu.hid (HCQ.out w8 hB8)
      clear hb8 hB8 HEQ1
      go_wp2_with (go_at_call 14; refine HC1.out.mono ?_; rintro e w9 ⟨o1, c1, vs1, rfl, hr9, hb9⟩; refine Hid.out ?_)
      refine Nu.hid ?_
      have hB9 : Below V.heap.size V w9 := HB8.out.trans (hb9.mono HB8.out.size)
      have HB89 := Nu.hid hb9
      have HB9 := Nu.hid hB9
      have HR9 := Nu.hid hr9
      have HC2 := Nu.hid (HRQ.out w9 hB9)
      clear hb9 hB9 hr9 HC1
      go_wp2_with (go_at_call 15; refine HC2.out.mono ?_; rintro e w10 ⟨o2, c2, vs2, rfl, hr10, hb10⟩; refine Hid.out ?_)
      refine Nu.hid ?_
      have hB10 : Below V.heap.size V w10 := HB9.out.trans (hb10.mono HB9.out.size)
      have HB910 := Nu.hid hb10
      have HB10 := Nu.hid hB10
      have HEQ2 : Hid (Calls Try.prog 9 #[.slice o1 ls.length c1, .slice o2 ls.length c2] w10 fun e w' => e = .returned (.bool true) ∧ Below w10.heap.size w10 w') := by
        have hml : (ls.map Ro.canon1).length = ls.length := List.length_map _
        obtain ⟨o, c, e, h, -⟩ := (HR9.out.later hb10).rws (fun l h => by have := HCB.out l h; omega)
        obtain ⟨o', c', e', h', -⟩ := hr10.rws (fun l h => by have := HCB.out l h; omega)
        rw [hml] at e e'
        cases e
        cases e'
        have := equal11_any o1 o2 c1 c2 (ls.map Ro.canon1) (ls.map Ro.canon1) w10 h h' (by rw [hml]; omega)
        rw [hml] at this
        refine this.mono ?_
        rintro e w' ⟨h1, h2⟩
        exact ⟨by rw [h1]; simp, h2⟩
      clear hb10 hB10 hr10 HC2
      go_wp2_with (go_at_call 9; refine HEQ2.out.mono ?_; rintro e w11 ⟨rfl, hb11⟩; refine Hid.out ?_)
      refine Nu.hid ?_
      have hB11 : Below V.heap.size V w11 := HB10.out.trans (hb11.mono HB10.out.size)
      have HB7X : Hid (Below w7.heap.size w7 w11) := HB78.out.trans ((HB89.out.trans ((HB910.out.trans (hb11.mono HB910.out.size)).mono HB89.out.size)).mono HB78.out.size)
      have HB11 := Nu.hid hB11
      obtain ⟨fq, hfq⟩ : ∃ q, q = (Ro.froms n es W).length := ⟨_, rfl⟩
      rw [← hfq] at HR7 ⊢
      have HFQ := Nu.hid hfq
      obtain ⟨X0, hX0⟩ : ∃ X, X = w11 := ⟨_, rfl⟩
      have hB12 : Below V.heap.size V X0 := by rw [hX0]; exact hB11
      have hb7X : Below w7.heap.size w7 X0 := by rw [hX0]; exact HB7X.out
      rw [← hX0]
      clear hfq hb11 hB11 HEQ2 hX0
      have hsV := HB.out.size
      have hs05 := HB05.out.size
      have hs56 := HB56.out.size
      have hs67 := HB67.out.size
      have hs7X := hb7X.size
      have HBX0 := Nu.hid hB12
      have hb6X := HB67.out.trans (hb7X.mono HB67.out.size)
      have hb5X := HB56.out.trans (hb6X.mono HB56.out.size)
      have HRX := Nu.hid (HR.out.later (HB05.out.trans (hb5X.mono HB05.out.size)))
      have HOX := Nu.hid (HO5.out.later hb5X)
      have HAX := Nu.hid (HR6.out.later hb6X)
      have HFX := Nu.hid (HR7.out.later hb7X)
      have HRW : Hid (∀ b, ((Value.slice uo ql uc).ownBlock = some b ∨ inV vs b) → b < W0.heap.size) := fun b hb => (HR.out.within hb).2
      have HOW : Hid (∀ b, (Value.slice po pk pq).ownBlock = some b → W0.heap.size ≤ b ∧ b < w5.heap.size) := fun b hb => HO5.out.lt hb
      have HAW : Hid (∀ b, inV qs b → w5.heap.size ≤ b ∧ b < w6.heap.size) := fun b hb => HR6.out.within (.inr hb)
      have HAW' : Hid (∀ b, (Value.slice qo W.length qq).ownBlock = some b → w5.heap.size ≤ b ∧ b < w6.heap.size) := fun b hb => HR6.out.within (.inl hb)
      have HFW : Hid (∀ b, inV ss b → w6.heap.size ≤ b ∧ b < w7.heap.size) := fun b hb => HR7.out.within (.inr hb)
      have HFW' : Hid (∀ b, (Value.slice so fq sq).ownBlock = some b → w6.heap.size ≤ b ∧ b < w7.heap.size) := fun b hb => HR7.out.within (.inl hb)
      have hLb : L.length + 4194305 ≤ 30000000 := by have h1 := HLN.out; have h2 := HK6.out; omega
      clear hB12 hb7X hb6X hb5X
      go_wp2_with (at_builtin; refine wpList_pushRowG rfl _ _ 25 Try.underlying25 rfl X0 V.heap.size (.slice uo ql uc) vs L (.slice po pk pq) L1 HRX.out (HOX.out.lower hsV) (fun u z b hz hzb e => by have h1 := HRW.out b (.inr ⟨u, z, hz, hzb⟩); have h2 := HOW.out b e; omega) (fun b hb e => by have h1 := HRW.out b (.inl hb); have h2 := HOW.out b e; omega) (by omega) (by omega) rfl rfl ?_; refine Hid.out ?_)
      refine Nu.hid ?_
      intro v1 X1 hr1 hk1 hv1 hbX1
      obtain ⟨vs1, hvs1⟩ : ∃ l, l = vs ++ [Value.slice po pk pq] := ⟨_, rfl⟩
      obtain ⟨LA1, hLA1⟩ : ∃ l, l = L ++ [L1] := ⟨_, rfl⟩
      rw [← hvs1, ← hLA1] at hr1
      have HLA1 : Hid (LA1.length = L.length + 1 ∧ ∀ l ∈ LA1, l.length ≤ 8388608) := by
        refine Nu.hid ⟨by rw [hLA1]; simp, fun l h => ?_⟩
        rw [hLA1] at h
        rcases List.mem_append.1 h with h | h
        · exact HLLL.out l h
        · rw [List.mem_singleton.1 h]
          exact HL5.out
      have hsX1 : X0.heap.size ≤ X1.heap.size := by
        rcases hv1 with e | e
        · exact hbX1.size
        · exact hbX1.size
      have HBX1 := Nu.hid (HBX0.out.trans hbX1)
      have HV1 : Hid (∀ b, (v1.ownBlock = some b ∨ inV vs1 b) → b < w5.heap.size ∨ X0.heap.size ≤ b) := fun b hb => by
        rw [hvs1] at hb
        rcases hb with hb | hb
        · rcases hv1 with e | e
          · rw [e] at hb
            have := HRW.out b (.inl hb)
            omega
          · exact .inr (e b hb)
        · rcases inV_append.1 hb with hb | hb
          · have := HRW.out b (.inr hb)
            omega
          · have := HOW.out b (inV_one.1 hb)
            omega
      have HP1 : Hid (∀ b, W0.heap.size ≤ b → b < X0.heap.size → X1.heap[b]? = X0.heap[b]?) := fun b h1 h2 => hk1 b h2 (fun e => by have := HRW.out b (.inl e); omega)
      obtain ⟨a1, n1, k1, rfl⟩ : ∃ a n c, v1 = .slice a n c := by
        obtain ⟨a, c, e⟩ := row_shape hr1
        exact ⟨_, _, _, e⟩
      have HR1 := Nu.hid hr1
      have HA1 : Hid (RowsZ X1 w5.heap.size (.slice qo W.length qq) qs W) := HAX.out.kept fun b hb _ => by
        have : w5.heap.size ≤ b ∧ b < w6.heap.size := by
          rcases hb with hb | hb
          · exact HAW'.out b hb
          · exact HAW.out b hb
        exact HP1.out b (by omega) (by omega)
      clear hr1 hk1 hv1 hbX1 hvs1 hLA1
      go_wp2_with (at_builtin; refine wpList_extendRows rfl _ _ 25 Try.underlying25 rfl X1 V.heap.size (.slice a1 n1 k1) _ _ HR1.out (by omega) w5.heap.size (.slice qo W.length qq) qs W HA1.out (by omega) (fun b h1 h2 => by have h3 := HAW.out b h1; have h4 := HV1.out b h2; omega) (by have := HWF.out.1; have := HLA1.out.1; omega) rfl rfl ?_; refine Hid.out ?_)
      refine Nu.hid ?_
      intro v2 X2 hr2 hg2 hv2
      obtain ⟨vs2', hvs2⟩ : ∃ l, l = vs1 ++ qs := ⟨_, rfl⟩
      obtain ⟨LA2, hLA2⟩ : ∃ l, l = LA1 ++ W := ⟨_, rfl⟩
      rw [← hvs2, ← hLA2] at hr2
      have HLA2 : Hid (LA2.length = LA1.length + W.length ∧ ∀ l ∈ LA2, l.length ≤ 8388608) := by
        refine Nu.hid ⟨by rw [hLA2, List.length_append], fun l h => ?_⟩
        rw [hLA2] at h
        rcases List.mem_append.1 h with h | h
        · exact HLA1.out.2 l h
        · have := HWF.out.2.1 l h
          omega
      have hsX2 := hg2.size
      have HV1lt : Hid (∀ b, (Value.slice a1 n1 k1).ownBlock = some b → V.heap.size ≤ b) := fun b hb => (HR1.out.within (.inl hb)).1
      have HBX2 := Nu.hid (HBX1.out.grown hg2 (by omega) HV1lt.out)
      have HV2 : Hid (∀ b, (v2.ownBlock = some b ∨ inV vs2' b) → b < w6.heap.size ∨ X0.heap.size ≤ b) := fun b hb => by
        rw [hvs2] at hb
        rcases hb with hb | hb
        · rcases hv2 with e | e
          · rw [e] at hb
            have := HV1.out b (.inl hb)
            omega
          · rw [e] at hb
            have := Option.some.inj hb
            omega
        · rcases inV_append.1 hb with hb | hb
          · have := HV1.out b (.inr hb)
            omega
          · have := HAW.out b hb
            omega
      have HP2 : Hid (∀ b, w5.heap.size ≤ b → b < X0.heap.size → X2.heap[b]? = X0.heap[b]?) := fun b h1 h2 => by
        rw [← HP1.out b (by omega) h2]
        exact hg2.block b (by omega) (fun e => by have := HV1.out b (.inl e.symm); omega)
      obtain ⟨a2, n2, k2, rfl⟩ : ∃ a n c, v2 = .slice a n c := by
        obtain ⟨a, c, e⟩ := row_shape hr2
        exact ⟨_, _, _, e⟩
      have HR2 := Nu.hid hr2
      have HF2 : Hid (RowsZ X2 w6.heap.size (.slice so fq sq) ss (Ro.froms n es W)) := HFX.out.kept fun b hb _ => by
        have : w6.heap.size ≤ b ∧ b < w7.heap.size := by
          rcases hb with hb | hb
          · exact HFW'.out b hb
          · exact HFW.out b hb
        exact HP2.out b (by omega) (by omega)
      clear hr2 hg2 hv2 hvs2 hLA2
      go_wp2_with (at_builtin; refine wpList_extendRows rfl _ _ 26 Try.underlying26 rfl X2 V.heap.size (.slice a2 n2 k2) _ _ HR2.out (by omega) w6.heap.size (.slice so fq sq) ss (Ro.froms n es W) HF2.out (by omega) (fun b h1 h2 => by have h3 := HFW.out b h1; have h4 := HV2.out b h2; omega) (by have := HWF.out.1; have := HWF.out.2.2.1; have := HLA1.out.1; have := HLA2.out.1; omega) rfl rfl ?_; refine Hid.out ?_)
      refine Nu.hid ?_
      intro v3 X3 hr3 hg3 hv3
      obtain ⟨LA3, hLA3⟩ : ∃ l, l = LA2 ++ Ro.froms n es W := ⟨_, rfl⟩
      obtain ⟨vb3, hvb3⟩ : ∃ l, l = vs2' ++ ss := ⟨_, rfl⟩
      rw [← hvb3, ← hLA3] at hr3
      have HLA3 : Hid (LA3.length = LA2.length + (Ro.froms n es W).length ∧ ∀ l ∈ LA3, l.length ≤ 8388608) := by
        refine Nu.hid ⟨by rw [hLA3, List.length_append], fun l h => ?_⟩
        rw [hLA3] at h
        rcases List.mem_append.1 h with h | h
        · exact HLA2.out.2 l h
        · have := HWF.out.2.2.2 l h
          omega
      have hsX3 := hg3.size
      have HBX3 := Nu.hid (HBX2.out.grown hg3 (by omega) (fun b hb => (HR2.out.within (.inl hb)).1))
      obtain ⟨a3, n3, k3, rfl⟩ : ∃ a n c, v3 = .slice a n c := by
        obtain ⟨a, c, e⟩ := row_shape hr3
        exact ⟨_, _, _, e⟩
      have HR3 := Nu.hid hr3
      have HC3 := Nu.hid (HCQ.out X3 HBX3.out)
      clear hr3 hg3 hv3 hvb3 hLA3
      go_wp2_with (go_at_call 14; refine HC3.out.mono ?_; rintro e X4 ⟨o4, c4, vs4, rfl, hr4, hb4⟩; refine Hid.out ?_)
      refine Nu.hid ?_
      have hsX4 := hb4.size
      have HBX4 := Nu.hid (HBX3.out.trans (hb4.mono HBX3.out.size))
      have HR34 := Nu.hid (HR3.out.later hb4)
      have HR4 := Nu.hid hr4
      clear hr4 hb4
      go_wp2_with (at_builtin; refine wpList_extendRows rfl _ _ 26 Try.underlying26 rfl X4 V.heap.size (.slice a3 n3 k3) _ _ HR34.out (by omega) X3.heap.size (.slice o4 ls.length c4) vs4 (ls.map Ro.canon1) HR4.out (by omega) (fun b h1 h2 => by have h3 := (HR4.out.within (.inr h1)).1; have h4 := (HR3.out.within h2).2; omega) (by have := HWF.out.1; have := HWF.out.2.2.1; have := HLA1.out.1; have := HLA2.out.1; have := HLA3.out.1; rw [List.length_map]; omega) rfl rfl ?_; refine Hid.out ?_)
      refine Nu.hid ?_
      intro v5 X5 hr5 hg5 hv5
      obtain ⟨LA5, hLA5⟩ : ∃ l, l = LA3 ++ ls.map Ro.canon1 := ⟨_, rfl⟩
      obtain ⟨vb5, hvb5⟩ : ∃ l, l = vb3 ++ vs4 := ⟨_, rfl⟩
      rw [← hvb5, ← hLA5] at hr5
      have HLA5 : Hid (LA5.length = LA3.length + (ls.map Ro.canon1).length ∧ ∀ l ∈ LA5, l.length ≤ 8388608) := by
        refine Nu.hid ⟨by rw [hLA5, List.length_append], fun l h => ?_⟩
        rw [hLA5] at h
        rcases List.mem_append.1 h with h | h
        · exact HLA3.out.2 l h
        · have := HCB.out l h
          omega
      have hsX5 := hg5.size
      have HBX5 := Nu.hid (HBX4.out.grown hg5 (by omega) (fun b hb => (HR34.out.within (.inl hb)).1))
      obtain ⟨a5, n5, k5, rfl⟩ : ∃ a n c, v5 = .slice a n c := by
        obtain ⟨a, c, e⟩ := row_shape hr5
        exact ⟨_, _, _, e⟩
      have HR5 := Nu.hid hr5
      have HC5 := Nu.hid (HMQ.out X5 HBX5.out)
      clear hr5 hg5 hv5 hvb5 hLA5
      go_wp2_with (go_at_call 16; refine HC5.out.mono ?_; rintro e X6 ⟨o6, c6, vs6, rfl, hr6', hb6'⟩; refine Hid.out ?_)
      refine Nu.hid ?_
      have hsX6 := hb6'.size
      have HBX6 := Nu.hid (HBX5.out.trans (hb6'.mono HBX5.out.size))
      have HR56 := Nu.hid (HR5.out.later hb6')
      have HR6m := Nu.hid hr6'
      clear hr6' hb6'
      go_wp2_with (at_builtin; refine wpList_extendRows rfl _ _ 26 Try.underlying26 rfl X6 V.heap.size (.slice a5 n5 k5) _ _ HR56.out (by omega) X5.heap.size (.slice o6 ls.length c6) vs6 (ls.map (fun l => Ro.canon1 l.reverse)) HR6m.out (by omega) (fun b h1 h2 => by have h3 := (HR6m.out.within (.inr h1)).1; have h4 := (HR5.out.within h2).2; omega) (by have := HWF.out.1; have := HWF.out.2.2.1; have := HLA1.out.1; have := HLA2.out.1; have := HLA3.out.1; have h5 := HLA5.out.1; rw [List.length_map] at h5 ⊢; omega) rfl rfl ?_; refine Hid.out ?_)
      refine Nu.hid ?_
      intro v7 X7 hr7 hg7 hv7
      obtain ⟨LA7, hLA7⟩ : ∃ l, l = LA5 ++ ls.map (fun l => Ro.canon1 l.reverse) := ⟨_, rfl⟩
      obtain ⟨vb7, hvb7⟩ : ∃ l, l = vb5 ++ vs6 := ⟨_, rfl⟩
      rw [← hvb7, ← hLA7] at hr7
      have HLA7 : Hid (LA7.length = LA5.length + (ls.map (fun l => Ro.canon1 l.reverse)).length ∧ ∀ l ∈ LA7, l.length ≤ 8388608) := by
        refine Nu.hid ⟨by rw [hLA7, List.length_append], fun l h => ?_⟩
        rw [hLA7] at h
        rcases List.mem_append.1 h with h | h
        · exact HLA5.out.2 l h
        · have := HMB.out l h
          omega
      have HBX7 := Nu.hid (HBX6.out.grown hg7 (by omega) (fun b hb => (HR56.out.within (.inl hb)).1))
      have HR7e := Nu.hid hr7
      have HCNT : Hid (LA7.length ≤ (k + 1) * 4194305) := by
        have h1 := HWF.out.1
        have h2 := HWF.out.2.2.1
        have h3 := HLN.out
        have e1 := HLA1.out.1
        have e2 := HLA2.out.1
        have e3 := HLA3.out.1
        have e5 := HLA5.out.1
        have e7 := HLA7.out.1
        rw [List.length_map] at e5 e7
        show LA7.length ≤ (k + 1) * 4194305
        omega
      have hwk : IntKind.i64.wrap ((k : Int) + 1) = (k : Int) + 1 := by rw [IntKind.wrap_i64]; omega
      clear hr7 hg7 hv7 hvb7 hLA7
      go_wp2
      go_roundw
      case rel => exact ⟨k + 1, _, _, HK6.out, by go_num, HR7e.out, HCNT.out, HLA7.out.2, HBX7.out⟩
      case measure => have := HK6.out; simp [intOf]; omega
    · have hk6' : ¬ (k : Int) < 6 := by omega
      have HEND : Hid (L.length ≤ 100000000) := by have : L.length ≤ k * 4194305 := hLn; have : k ≤ 6 := hk; show L.length ≤ 100000000; omega
      have HR := Nu.hid hR
      have HLLL := Nu.hid hLl
      have HB := Nu.hid hb
      clear hR hLn hLl hb hk
      repeat (first | exact ends HM0.out HL0.out hN HLL.out HBEL.out HR.out HEND.out HLLL.out HB.out | go_step)

end
end lawRM
end Go.Proofs.Ytjlfdkeklilafab
