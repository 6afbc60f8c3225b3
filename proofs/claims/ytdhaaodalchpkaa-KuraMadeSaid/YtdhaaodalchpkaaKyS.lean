/-
  Layer 15, the laws' own: shown.
-/
import Derived.Test.YtdhaaodalchpkaaMgP
import Derived.Test.YtdhaaodalchpkaaMgO
import Derived.Test.YtdhaaodalchpkaaLwQ
import Derived.Test.YtdhaaodalchpkaaKuU
import Derived.Test.YtdhaaodalchpkaaKuQ
namespace Go.Proofs.Ytdhaaodalchpkaa
open Go.RowKit Go.Sort

set_option maxRecDepth 100000 in
set_option maxHeartbeats 32000000 in
theorem shown_rest {t0 t1 t4 t6 t7 t8 t9 t10 t11 t12 t13 t14 t15 t16 t17 t18 t19 t20 t21 t22 t23 t24 t25 t26 t27 t28 t29 t30 t31 t32 t33 t34 t35 t36 t37 t38 t39 t40 t41 t42 t43 t44 t45 t46 t47 t48 t49 t50 t51 t52 t53 t54 t55 t56 t57 t58 t59 t60 t61 t62 t63 t64 t65 t66 t67 t68 t69 t70 t71 t72 t73 t74 t75 t76 t77 t78 t79 t80 t81 t82 t83 t84 t85 t86 t87 t88 t89 t90 t91 t92 t93 t94 t95 t96 t97 t98 t99 t100 t101 t102 t103 t104 t105 t106 t107 t108 t109 t110 t111 t112 t113 t114 t115 t116 t117 t118 t119 t120 t121 t122 t123 t124 t125 t126 t127 t128 t129 t130 t131 t132 t133 t134 t135 t136 t137 t138 t139 t140 t141 t142 t143 t144 t145 t146 t147 t148 t149 t150 t151 t152 t153 t154 t155 t156 t157 t158 t159 t160 t161 t162 t163 t164 t165 t166 t167 t168 t169 t170 t171 t172 t173 t174 t175 t176 t177 t178 t179 t180 t181 t182 t183 t184 t185 t186 t187 : Value} (m kd q M P ca bc pc bb bo pb po : Nat) (ao : Option Addr) (es : List (Int × Int)) (br : List Int) (ps : List (List Int)) (ts : List (List Nat)) (w W : World)
    (hv : Si.Val (m : Int) es) (hM : es.length = M) (hP : ps.length = P) (hs : Ku.Shows es m kd q br ps ts) (hb0 : Below w.heap.size w W)
    (hread : ∀ U, Below W.heap.size W U → (U.cell? ⟨w.heap.size, 0, none⟩ = some (.int .i64 (m : Int)) ∧ U.cell? ⟨w.heap.size, 1, none⟩ = some (.slice ao M ca)) ∧ (U.cell? ⟨w.heap.size + 1, 0, none⟩ = some (.int .i64 (kd : Int)) ∧ U.cell? ⟨w.heap.size + 1, 1, none⟩ = some (.slice (some ⟨bb, bo, none⟩) q bc) ∧ U.cell? ⟨w.heap.size + 1, 2, none⟩ = some (.slice (some ⟨pb, po, none⟩) P pc)) ∧ EdgesAt U ao es ∧ (∀ (i : Nat) (b : Int), br[i]? = some b → U.cell? ⟨bb, bo + i, none⟩ = some (.int .i64 b)))
    (hpath : ∀ (k : Nat) (c : List Int), ps[k]? = some c → ∃ cb co cc : Nat, ∀ U, Below W.heap.size W U → U.cell? ⟨pb, po + k, none⟩ = some (.slice (some ⟨cb, co, none⟩) c.length cc) ∧ ∀ (i : Nat) (v : Int), c[i]? = some v → U.cell? ⟨cb, co + i, none⟩ = some (.int .i64 v)) :
    Code.wp Try.prog (Ku.spine15 3 (Try.f19.body.getD .skip)) (bodyPost Try.prog Try.f19 fun e w' => e = .returned (.bool true) ∧ Below w.heap.size w w') { tmps := #[t0, t1, .pointer (some ⟨w.heap.size, 0, none⟩), .pointer (some ⟨w.heap.size + 1, 0, none⟩), t4, .int .i64 (q : Int), t6, t7, t8, t9, t10, t11, t12, t13, t14, t15, t16, t17, t18, t19, t20, t21, t22, t23, t24, t25, t26, t27, t28, t29, t30, t31, t32, t33, t34, t35, t36, t37, t38, t39, t40, t41, t42, t43, t44, t45, t46, t47, t48, t49, t50, t51, t52, t53, t54, t55, t56, t57, t58, t59, t60, t61, t62, t63, t64, t65, t66, t67, t68, t69, t70, t71, t72, t73, t74, t75, t76, t77, t78, t79, t80, t81, t82, t83, t84, t85, t86, t87, t88, t89, t90, t91, t92, t93, t94, t95, t96, t97, t98, t99, t100, t101, t102, t103, t104, t105, t106, t107, t108, t109, t110, t111, t112, t113, t114, t115, t116, t117, t118, t119, t120, t121, t122, t123, t124, t125, t126, t127, t128, t129, t130, t131, t132, t133, t134, t135, t136, t137, t138, t139, t140, t141, t142, t143, t144, t145, t146, t147, t148, t149, t150, t151, t152, t153, t154, t155, t156, t157, t158, t159, t160, t161, t162, t163, t164, t165, t166, t167, t168, t169, t170, t171, t172, t173, t174, t175, t176, t177, t178, t179, t180, t181, t182, t183, t184, t185, t186, t187], defers := [] } W := by
  have HS := Nu.hid hs
  have HREAD := Nu.hid hread
  have HPATH := Nu.hid hpath
  have HV := Nu.hid hv
  have HM := Nu.hid hM
  have HP := Nu.hid hP
  have HB0 := Nu.hid hb0
  have hm : m ≤ 1048576 := by have := hv.hi; omega
  have hMl : M ≤ 4194304 := by have := hv.few; omega
  have hq6 : q ≤ 6 := by rcases hs.kdq with h | h <;> omega
  have hq5 : 5 ≤ q := by rcases hs.kdq with h | h <;> omega
  have hkd2 : kd ≤ 2 := by rcases hs.kdq with h | h <;> omega
  have HPL : Hid (P = (Ku.out kd q q).length) := by rw [← hP]; exact hs.pl
  have hPs : P ≤ 36 := by
    rw [HPL.out]
    have h1 := (Ku.out_len kd q (i := q) (j := 0)).2
    have h2 : q * q ≤ 6 * 6 := Nat.mul_le_mul hq6 hq6
    omega
  have hmi0 : (0 : Int) ≤ (m : Int) := by omega
  have hMi0 : (0 : Int) ≤ (M : Int) := by omega
  obtain ⟨ii, hii, iz0, iz1, iz2⟩ := info_parts Try.infoNum
  have hmk : (Instr.makeSlice 36 (.int .i64 (m : Int)) (.int .i64 (m : Int))).run Try.prog W = .ok (.slice (some ⟨W.heap.size, 0, none⟩) m m) (W.alloc (.cells (madeCells #[.int .i64 0] m) 3)) := by
    have := run_make (P := Try.prog) W 36 3 ii (.int .i64 0) Try.underlying36 hii iz0 .i64 .i64 (m : Int) (m : Int) (by omega) (Int.le_refl _) (by rw [iz2]; omega) (by omega)
    rw [this, iz1]
    simp [Value.cells]
  obtain ⟨ib, hib, bz0, bz1, bz2⟩ := info_parts Try.infoBool
  have HMB : Hid (∀ X : World, (Instr.makeSlice 46 (.int .i64 (M : Int)) (.int .i64 (M : Int))).run Try.prog X = .ok (.slice (some ⟨X.heap.size, 0, none⟩) M M) (X.alloc (.cells (madeCells #[.bool false] M) 4))) := fun X => by
    have := run_make (P := Try.prog) X 46 4 ib (.bool false) Try.underlying46 hib bz0 .i64 .i64 (M : Int) (M : Int) (by omega) (Int.le_refl _) (by rw [bz2]; omega) (by omega)
    rw [this, bz1]
    simp [Value.cells]
  obtain ⟨W1, hW1⟩ : ∃ W1, W1 = W.alloc (.cells (madeCells #[.int .i64 0] m) 3) := ⟨_, rfl⟩
  have hB1 : Below W.heap.size W W1 := by rw [hW1]; exact (Below.refl _ _).alloc (Nat.le_refl _) _
  have hI1 : IntsBlk W1 W.heap.size (List.replicate m 0) := by
    rw [hW1]
    unfold IntsBlk
    rw [heap_alloc_new]
    congr 2
    apply Array.ext'
    rw [made_zeros]
  have HB1 := Nu.hid hB1
  have HI1 := Nu.hid hI1
  have HW1 := Nu.hid hW1
  obtain ⟨⟨r0, r1⟩, ⟨r2, r3, r4⟩, -, -⟩ := hread W (Below.refl _ _)
  clear hs hread hpath hv hM hP hb0 hW1 hB1 hI1
  simp only [Try.f19, Option.getD, Ku.spine15]
  go_wp2_with fail
  rw [← HW1.out]
  clear hmk r0 r1 r2 r3 r4
  go_loopw [7] (fun cv wr => ∃ (i : Nat) (U : List Int), i ≤ q ∧ cv = .int .i64 (i : Int) ∧ IntsBlk wr W.heap.size U ∧ Ku.SeenB m br i U ∧ Below W.heap.size W wr) (fun cv _ => q - (intOf cv).toNat)
  case atStart => exact ⟨0, _, Nat.zero_le _, rfl, HI1.out, Ku.SeenB.start m br, HB1.out⟩
  case round =>
    obtain ⟨i, U, hiq, rfl, hiu, hsb, hb⟩ := hrel
    obtain ⟨X, rfl⟩ : ∃ X, X = wr := ⟨wr, rfl⟩
    have hwi : IntKind.i64.wrap ((i : Int) + 1) = (i : Int) + 1 := by rw [IntKind.wrap_i64]; omega
    by_cases hlt : i < q
    · have hlti : (i : Int) < (q : Int) := by omega
      have hi0 : (0 : Int) ≤ (i : Int) := by omega
      obtain ⟨b, hbb⟩ : ∃ b, br[i]? = some b := ⟨_, List.getElem?_eq_getElem (by rw [HS.out.brl]; exact hlt)⟩
      have hbin := HS.out.brin b (List.mem_of_getElem? hbb)
      obtain ⟨bn, rfl⟩ : ∃ bn : Nat, b = (bn : Int) := ⟨b.toNat, by omega⟩
      have hbm : bn < m := by omega
      obtain ⟨⟨r0, r1⟩, ⟨r2, r3, r4⟩, -, rb⟩ := HREAD.out X hb
      have rbi := rb i _ hbb
      have hz : U[bn]? = some 0 := by
        have h1 := hsb.fresh HS.out.brnd hbb hbm
        obtain ⟨u, h2⟩ : ∃ u, U[bn]? = some u := ⟨_, List.getElem?_eq_getElem (by rw [hsb.len]; exact hbm)⟩
        rw [Ku.gI_at h2] at h1
        rw [h2, h1]
      have hcell := hiu.cell hz
      have hfr := hiu.free bn
      have HST : Hid (IntsBlk (X.setCell ⟨W.heap.size, bn, none⟩ (.int .i64 1)) W.heap.size (U.set bn 1)) := hiu.set bn 1
      have HSB := Nu.hid (hsb.step hbb hbm)
      have HBS : Hid (Below W.heap.size W (X.setCell ⟨W.heap.size, bn, none⟩ (.int .i64 1))) := hb.setCell (p := ⟨W.heap.size, bn, none⟩) (Nat.le_refl _) _
      have hb0 : ¬ ((bn : Int) < 0) := by omega
      have hb1 : ¬ ((m : Int) ≤ (bn : Int)) := by omega
      have hb2 : (0 : Int) ≤ (bn : Int) := by omega
      have hb3 : (bn : Int) < (m : Int) := by omega
      clear hbin hz hiu hsb hb rb hbb
      go_wp2
      go_roundw
      case rel => exact ⟨i + 1, _, by omega, by go_num, HST.out, HSB.out, HBS.out⟩
      case measure => simp [intOf]; omega
    · have hd : ¬ ((i : Int) < (q : Int)) := by omega
      obtain rfl : q = i := by omega
      obtain ⟨⟨r0, r1⟩, ⟨r2, r3, r4⟩, -, -⟩ := HREAD.out X hb
      obtain ⟨X1, hX1⟩ : ∃ X1, X1 = X.alloc (.cells (madeCells #[.bool false] M) 4) := ⟨_, rfl⟩
      have hmb := HMB.out X
      have hbX : Below X.heap.size X X1 := by rw [hX1]; exact (Below.refl _ _).alloc (Nat.le_refl _) _
      have HF1 : Hid (BoolsIn X1 X.heap.size M (fun _ => false)) := by rw [hX1]; exact made_bools rfl _
      have HIU1 := Nu.hid (hiu.later hbX)
      have HBX1 := Nu.hid (hb.trans (hbX.mono hb.size))
      have HSV : Hid (Ku.SeenV es m br ts 0 U) := by
        have h1 := hsb
        rw [← HS.out.brl] at h1
        exact Nu.hid h1.done
      have hgX : W.heap.size < X.heap.size := hiu.lt
      have HX1 := Nu.hid hX1
      obtain ⟨g2, hg2⟩ : ∃ g2, X.heap.size = g2 := ⟨_, rfl⟩
      rw [hg2] at hmb HF1 hgX
      clear hiu hsb hb hX1 hbX
      go_wp2_with fail
      rw [← HX1.out]
      clear hmb r0 r1 r2 r3 r4
      go_loopw [10, 11, 12] (fun av ev cv wr => ∃ (i at' d : Nat) (f : Nat → Bool) (U : List Int), i ≤ q ∧ av = .int .i64 (at' : Int) ∧ ev = .int .i64 (d : Int) ∧ cv = .int .i64 (i : Int) ∧ at' = (Ku.out kd q i).length ∧ d = Ku.offE ts at' ∧ BoolsIn wr g2 M f ∧ IntsBlk wr W.heap.size U ∧ Ku.SeenE ts d f ∧ Ku.SeenV es m br ts (Ku.offV es ts at') U ∧ Below W.heap.size W wr) (fun _ _ cv _ => q - (intOf cv).toNat)
      case atStart => exact ⟨0, 0, 0, _, _, Nat.zero_le _, rfl, rfl, rfl, rfl, Ku.offE_zero.symm, HF1.out, HIU1.out, Ku.SeenE.start, by rw [Ku.offV_zero]; exact HSV.out, HBX1.out⟩
      case round =>
        obtain ⟨i, at', d, f, U, hiq, rfl, rfl, rfl, hat, hd, hf, hiu, hse, hsv, hb⟩ := hrel
        obtain ⟨Y, rfl⟩ : ∃ Y, Y = wr := ⟨wr, rfl⟩
        have hwi : IntKind.i64.wrap ((i : Int) + 1) = (i : Int) + 1 := by rw [IntKind.wrap_i64]; omega
        have HAT := Nu.hid hat
        have HD := Nu.hid hd
        have HF := Nu.hid hf
        have HIU := Nu.hid hiu
        have HSE := Nu.hid hse
        have HSVI := Nu.hid hsv
        have HBY := Nu.hid hb
        by_cases hlt : i < q
        · have hlti : (i : Int) < (q : Int) := by omega
          have hi0 : (0 : Int) ≤ (i : Int) := by omega
          clear hat hd hf hiu hse hsv hb
          go_wp2_with fail
          go_loopw [10, 11, 13] (fun av ev cv wr => ∃ (j at' d : Nat) (z : Int) (f : Nat → Bool) (U : List Int), i + 1 ≤ j ∧ j ≤ q ∧ av = .int .i64 (at' : Int) ∧ ev = .int .i64 (d : Int) ∧ cv = .int .i64 z ∧ z = (j : Int) ∧ at' = (Ku.out kd q i ++ Ku.inn kd i j).length ∧ d = Ku.offE ts at' ∧ BoolsIn wr g2 M f ∧ IntsBlk wr W.heap.size U ∧ Ku.SeenE ts d f ∧ Ku.SeenV es m br ts (Ku.offV es ts at') U ∧ Below W.heap.size W wr) (fun _ _ cv _ => q - (intOf cv).toNat)
          case atStart => exact ⟨i + 1, at', d, _, f, U, Nat.le_refl _, by omega, rfl, rfl, rfl, by omega, by rw [Ku.inn_nil kd i (Nat.le_refl _), List.append_nil]; exact HAT.out, HD.out, HF.out, HIU.out, HSE.out, HSVI.out, HBY.out⟩
          case round =>
            obtain ⟨j, k, d, z, f, U, hij, hjq, rfl, rfl, rfl, rfl, hat, hd, hf, hiu, hse, hsv, hb⟩ := hrel
            obtain ⟨Z, rfl⟩ : ∃ Z, Z = wr := ⟨wr, rfl⟩
            have hwj : IntKind.i64.wrap ((j : Int) + 1) = (j : Int) + 1 := by rw [IntKind.wrap_i64]; omega
            have HAT2 := Nu.hid hat
            have HD2 := Nu.hid hd
            have HF2 := Nu.hid hf
            have HIU2 := Nu.hid hiu
            have HSE2 := Nu.hid hse
            have HSV2 := Nu.hid hsv
            have HBZ := Nu.hid hb
            by_cases hjt : j < q
            · have hjti : (j : Int) < (q : Int) := by omega
              have hj0 : (0 : Int) ≤ (j : Int) := by omega
              obtain ⟨⟨r0, r1⟩, ⟨r2, r3, r4⟩, -, rb⟩ := HREAD.out Z hb
              by_cases hsk : kd = 2 ∧ (3 ≤ i ∨ j < 3)
              · have HN : Hid (Ku.inn kd i (j + 1) = Ku.inn kd i j) := Ku.inn_no hsk
                have k2 : ((kd : Int) == 2) = true := by rw [hsk.1]; rfl
                clear hat hd hf hiu hse hsv hb rb
                by_cases hi3 : 3 ≤ i
                · have g3 : (3 : Int) ≤ (i : Int) := by omega
                  clear hsk
                  go_wp2
                  go_roundw
                  case rel => exact ⟨j + 1, k, d, _, f, U, by omega, by omega, rfl, rfl, rfl, by omega, by rw [HN.out]; exact HAT2.out, HD2.out, HF2.out, HIU2.out, HSE2.out, HSV2.out, HBZ.out⟩
                  case measure => simp [intOf]; omega
                · have g3 : ¬ (3 : Int) ≤ (i : Int) := by omega
                  have g4 : (j : Int) < 3 := by omega
                  clear hsk
                  go_wp2
                  go_roundw
                  case rel => exact ⟨j + 1, k, d, _, f, U, by omega, by omega, rfl, rfl, rfl, by omega, by rw [HN.out]; exact HAT2.out, HD2.out, HF2.out, HIU2.out, HSE2.out, HSV2.out, HBZ.out⟩
                  case measure => simp [intOf]; omega
              · have HN : Hid (Ku.inn kd i (j + 1) = Ku.inn kd i j ++ [(i, j)]) := Ku.inn_yes (by omega) hsk
                have hpair := Ku.pair_next HS.out.kdq hlt hjt (by omega) hsk
                rw [← hat] at hpair
                have hkP : k < P := by
                  rw [HPL.out]
                  exact (List.getElem?_eq_some_iff.1 hpair).1
                obtain ⟨c, hc⟩ : ∃ c, ps[k]? = some c := ⟨_, List.getElem?_eq_getElem (by rw [HP.out]; exact hkP)⟩
                obtain ⟨l, hl⟩ : ∃ l, ts[k]? = some l := ⟨_, List.getElem?_eq_getElem (by rw [HS.out.tl, HP.out]; exact hkP)⟩
                have hway := HS.out.way k c l hc hl
                obtain ⟨en1, en2⟩ := HS.out.ends k c _ hc hpair
                obtain ⟨cb, co, cc, hcr⟩ := HPATH.out k c hc
                obtain ⟨L, hL⟩ : ∃ L, l.length = L := ⟨_, rfl⟩
                obtain ⟨C, hC⟩ : ∃ C, c.length = C := ⟨_, rfl⟩
                have hCL : C = L + 1 := by rw [← hC, ← hL]; exact hway.len
                have hL1 : 1 ≤ L := by rw [← hL]; exact Ku.pos_of hway.ne
                have hLM : Ku.offE ts k + L ≤ M := by rw [← hL, ← HM.out]; exact HS.out.few hl
                obtain ⟨bi, hbi⟩ : ∃ b, br[i]? = some b := ⟨_, List.getElem?_eq_getElem (by rw [HS.out.brl]; exact hlt)⟩
                obtain ⟨bj, hbj⟩ : ∃ b, br[j]? = some b := ⟨_, List.getElem?_eq_getElem (by rw [HS.out.brl]; exact hjt)⟩
                have ec0 : c[0]? = some bi := by
                  have h1 : c[0]? = some (c[0]'(by omega)) := List.getElem?_eq_getElem (by omega)
                  rw [h1]
                  congr 1
                  rw [← Ku.gI_at h1, en1, Ku.gI_at hbi]
                have ecL : c[L]? = some bj := by
                  have h1 : c[L]? = some (c[L]'(by omega)) := List.getElem?_eq_getElem (by omega)
                  rw [h1]
                  congr 1
                  rw [← Ku.gI_at h1]
                  rw [hC, hCL, Nat.add_sub_cancel] at en2
                  rw [en2, Ku.gI_at hbj]
                rw [hC] at hcr
                have HCR := Nu.hid hcr
                have HC := Nu.hid hCL
                have HL := Nu.hid hL
                have HTL := Nu.hid hl
                have HWAY := Nu.hid hway
                have hkPi : ¬ ((P : Int) ≤ (k : Int)) := by omega
                have hkPl : (k : Int) < (P : Int) := by omega
                have hk0 : (0 : Int) ≤ (k : Int) := by omega
                have hC2 : ¬ ((C : Int) < 2) := by omega
                have hwk : IntKind.i64.wrap ((k : Int) + 1) = (k : Int) + 1 := by rw [IntKind.wrap_i64]; omega
                have hC1 : (C : Int) - 1 = (L : Int) := by omega
                have hwL : IntKind.i64.wrap (L : Int) = (L : Int) := by rw [IntKind.wrap_i64]; omega
                have hL0 : (0 : Int) ≤ (L : Int) := by omega
                have hLC : (L : Int) < (C : Int) := by omega
                have hC0 : (0 : Int) < (C : Int) := by omega
                have hCM : C ≤ 4194305 := by omega
                have rk := (hcr Z hb).1
                have HRD : Hid (∀ D : LW Z, Below W.heap.size W D.val) := fun D => HBZ.out.trans (D.h.mono HBZ.out.size)
                have A0 : ∀ D : LW Z, D.val.cell? ⟨cb, co, none⟩ = some (.int .i64 bi) := fun D => (HCR.out D.val (HRD.out D)).2 0 _ ec0
                have A1 : ∀ D : LW Z, D.val.cell? ⟨cb, co + L, none⟩ = some (.int .i64 bj) := fun D => (HCR.out D.val (HRD.out D)).2 L _ ecL
                have A2 : ∀ D : LW Z, D.val.cell? ⟨w.heap.size + 1, 1, none⟩ = some (.slice (some ⟨bb, bo, none⟩) q bc) := fun D => (HREAD.out D.val (HRD.out D)).2.1.2.1
                have A3 : ∀ D : LW Z, D.val.cell? ⟨bb, bo + i, none⟩ = some (.int .i64 bi) := fun D => (HREAD.out D.val (HRD.out D)).2.2.2 i _ hbi
                have A4 : ∀ D : LW Z, D.val.cell? ⟨bb, bo + j, none⟩ = some (.int .i64 bj) := fun D => (HREAD.out D.val (HRD.out D)).2.2.2 j _ hbj
                have tb1 : (bi != bi) = false := by simp
                have tb2 : (bj != bj) = false := by simp
                have hne := LW.any Z
                have HD3 : Hid (d = Ku.offE ts k) := Nu.hid hd
                have hdM : d + L ≤ M := by rw [hd]; exact hLM
                have k2 : ((kd : Int) == 2) = false ∨ (((kd : Int) == 2) = true ∧ ¬ (3 : Int) ≤ (i : Int) ∧ ¬ (j : Int) < 3) := by
                  by_cases h : kd = 2
                  · exact .inr ⟨by rw [h]; rfl, by omega, by omega⟩
                  · exact .inl (by simp; omega)
                clear hat hd hf hiu hse hsv hb rb hc hway en1 en2 hcr hC hCL hL hl hbi hbj ec0 ecL hpair hLM hsk
                rcases k2 with k2 | ⟨k2, g3, g4⟩
                · go_wp2_with fail
                  refine wp_region_lw (by kernel_rfl) (by kernel_rfl) ?_
                  repeat (go_big_quiet_step (fail))
                  refine wpQuiet_nil ?_
                  rintro _ ⟨D, rfl⟩
                  obtain ⟨Z1, hZ1⟩ : ∃ Z1, D.val = Z1 := ⟨_, rfl⟩
                  have HB1' : Hid (Below W.heap.size W Z1) := by rw [← hZ1]; exact HRD.out D
                  have HF3 : Hid (BoolsIn Z1 g2 M f) := by rw [← hZ1]; exact HF2.out.later D.h
                  have HIU3 : Hid (IntsBlk Z1 W.heap.size U) := by rw [← hZ1]; exact HIU2.out.later D.h
                  rw [hZ1]
                  clear A0 A1 A2 A3 A4 hne hZ1 rk r0 r1 r2 r3 r4 tb1 tb2
                  go_wp2_with fail
                  have HSVK : Hid (Ku.SeenV es m br ts (Ku.offV es ts k) U) := HSV2
                  go_loopw [11, 15] (fun ev cv wr => ∃ (s xg d' : Nat) (f' : Nat → Bool) (U' : List Int), s ≤ L ∧ xg = s + 1 ∧ d' = d + s ∧ ev = .int .i64 (d' : Int) ∧ cv = .int .i64 (xg : Int) ∧ BoolsIn wr g2 M f' ∧ IntsBlk wr W.heap.size U' ∧ Ku.SeenE ts d' f' ∧ Ku.SeenV es m br ts (Ku.offV es ts k + min s (L - 1)) U' ∧ Below W.heap.size W wr) (fun _ cv _ => C - (intOf cv).toNat)
                  case atStart => exact ⟨0, 1, d, f, U, Nat.zero_le _, rfl, rfl, rfl, rfl, HF3.out, HIU3.out, HSE2.out, by rw [Nat.zero_min, Nat.add_zero]; exact HSVK.out, HB1'.out⟩
                  case round =>
                    obtain ⟨s, xg, d', f', U', hsL, hxg, hd', rfl, rfl, hf, hiu, hse, hsv, hb⟩ := hrel
                    obtain ⟨X2, rfl⟩ : ∃ X2, X2 = wr := ⟨wr, rfl⟩
                    have hCL := HC.out
                    have HXG := Nu.hid hxg
                    have HDD := Nu.hid hd'
                    have HF4 := Nu.hid hf
                    have HIU4 := Nu.hid hiu
                    have HSE4 := Nu.hid hse
                    have HSV4 := Nu.hid hsv
                    have HB4 := Nu.hid hb
                    by_cases hsl : s < L
                    · have hgi : (xg : Int) < (C : Int) := by omega
                      have hg1 : (xg : Int) - 1 = (s : Int) := by omega
                      have hws : IntKind.i64.wrap (s : Int) = (s : Int) := by rw [IntKind.wrap_i64]; omega
                      have hs0 : (0 : Int) ≤ (s : Int) := by omega
                      have hsC : (s : Int) < (C : Int) := by omega
                      have hxg0 : (0 : Int) ≤ (xg : Int) := by omega
                      have hwg : IntKind.i64.wrap ((xg : Int) + 1) = (xg : Int) + 1 := by rw [IntKind.wrap_i64]; omega
                      have hwd : IntKind.i64.wrap ((d' : Int) + 1) = (d' : Int) + 1 := by rw [IntKind.wrap_i64]; omega
                      obtain ⟨h, hh⟩ : ∃ h, l[s]? = some h := ⟨_, List.getElem?_eq_getElem (by rw [HL.out]; exact hsl)⟩
                      obtain ⟨hhl, ev1, ev2⟩ := HWAY.out.at_ s h hh
                      have hFd : ts.flatten[d']? = some h := by
                        rw [hd', HD3.out]
                        exact Ku.edge_at HTL.out hh
                      have HON : Hid (∀ D : LW X2, Calls Try.prog 17 #[.agg #[.int .i64 (m : Int), .slice ao M ca], .int .i64 (Cs.fr es h : Int), .int .i64 (Cs.to es h : Int)] D.val fun e w' => e = .returned (.int .i64 ((h / 2 : Nat) : Int)) ∧ Below D.val.heap.size D.val w') := fun D => by
                        have hD : Below W.heap.size W D.val := hb.trans (D.h.mono hb.size)
                        have := on15_any (m : Int) ao ca es h D.val (HREAD.out D.val hD).2.2.1 HV.out hhl
                        rw [HM.out] at this
                        exact this
                      have HTM : Cs.to es h < m := (Cs.half_lt HV.out hhl).2
                      have HFRESH := Nu.hid (hse.fresh HS.out hFd)
                      have HXM : h / 2 < M := by have h1 := hhl; rw [HM.out] at h1; omega
                      have HSTEP := Nu.hid (hse.step hFd)
                      have HVERT : Hid (s + 1 < L → (ts.map (Ku.innV es)).flatten[Ku.offV es ts k + min s (L - 1)]? = some (Cs.to es h)) := fun h1 => by
                        rw [show min s (L - 1) = s by omega]
                        exact Ku.vert_at HTL.out hh (by rw [HL.out]; exact h1)
                      obtain ⟨fa, hfa⟩ : ∃ fa, Cs.fr es h = fa := ⟨_, rfl⟩
                      obtain ⟨ta, hta⟩ : ∃ ta, Cs.to es h = ta := ⟨_, rfl⟩
                      obtain ⟨x, hx⟩ : ∃ x, h / 2 = x := ⟨_, rfl⟩
                      rw [hfa] at HON ev1
                      rw [hta] at HON ev2 HVERT HTM
                      rw [hx] at HON HFRESH HXM HSTEP
                      have HRD2 : Hid (∀ D : LW X2, Below W.heap.size W D.val) := fun D => HB4.out.trans (D.h.mono HB4.out.size)
                      have X0 : ∀ D : LW X2, D.val.cell? ⟨w.heap.size, 0, none⟩ = some (.int .i64 (m : Int)) := fun D => (HREAD.out D.val (HRD2.out D)).1.1
                      have X1 : ∀ D : LW X2, D.val.cell? ⟨w.heap.size, 1, none⟩ = some (.slice ao M ca) := fun D => (HREAD.out D.val (HRD2.out D)).1.2
                      have X2' : ∀ D : LW X2, D.val.cell? ⟨cb, co + s, none⟩ = some (.int .i64 (fa : Int)) := fun D => (HCR.out D.val (HRD2.out D)).2 s _ ev1
                      have X3 : ∀ D : LW X2, D.val.cell? ⟨cb, co + xg, none⟩ = some (.int .i64 (ta : Int)) := fun D => (HCR.out D.val (HRD2.out D)).2 xg _ (by rw [HXG.out]; exact ev2)
                      have HX3 := Nu.hid X3
                      have HEV : Hid (c[xg]? = some (ta : Int)) := by rw [HXG.out]; exact ev2
                      have hne := LW.any X2
                      clear hse hb hf hiu hsv hxg hd' hh hhl ev1 ev2 hfa hta hx hCL hFd
                      go_wp2_with fail
                      refine wp_region_lw (by kernel_rfl) (by kernel_rfl) ?_
                      repeat (go_big_quiet_step ((first | (go_at_call 17; exact Calls.lw (HON.out _)))))
                      refine wpQuiet_nil ?_
                      rintro _ ⟨D, rfl⟩
                      obtain ⟨Q, hQ⟩ : ∃ Q, D.val = Q := ⟨_, rfl⟩
                      have hbQ : Below W.heap.size W Q := by rw [← hQ]; exact HRD2.out D
                      have hboQ : BoolsIn Q g2 M f' := by rw [← hQ]; exact HF4.out.later D.h
                      have hiuQ : IntsBlk Q W.heap.size U' := by rw [← hQ]; exact HIU4.out.later D.h
                      have hx3 : Q.cell? ⟨cb, co + xg, none⟩ = some (.int .i64 (ta : Int)) := by rw [← hQ]; exact HX3.out D
                      rw [hQ]
                      clear X0 X1 X2' X3 hne hQ
                      have hc1 := hboQ.cell HXM
                      rw [HFRESH.out] at hc1
                      have hfz := hboQ.free x
                      have hxn : ¬ ((x : Int) < 0) := by omega
                      have hx0 : (0 : Int) ≤ (x : Int) := by omega
                      have hxM : (x : Int) < (M : Int) := by omega
                      obtain ⟨Q1, hQ1⟩ : ∃ Q1, Q1 = Q.setCell ⟨g2, x, none⟩ (.bool true) := ⟨_, rfl⟩
                      have hboQ1 : BoolsIn Q1 g2 M (Co.updB f' x true) := by rw [hQ1]; exact hboQ.set x true
                      have hiuQ1 : IntsBlk Q1 W.heap.size U' := by
                        rw [hQ1]
                        exact (heap_setCell_other Q ⟨g2, x, none⟩ W.heap.size _ (by show W.heap.size ≠ g2; omega)).trans hiuQ
                      have hbQ1 : Below W.heap.size W Q1 := by rw [hQ1]; exact hbQ.setCell (p := ⟨g2, x, none⟩) (by show W.heap.size ≤ g2; omega) _
                      have HDN : Hid (d' + 1 = d + (s + 1)) := by have h1 := HDD.out; show d' + 1 = d + (s + 1); omega
                      by_cases hin : s + 1 < L
                      · have hgg : (xg : Int) + 1 < (C : Int) := by have h1 := HXG.out; have h2 := HC.out; omega
                        have hta0 : (0 : Int) ≤ (ta : Int) := by omega
                        have htam : (ta : Int) < (m : Int) := by omega
                        have hz : U'[ta]? = some 0 := by
                          have h1 := HSV4.out.fresh HS.out (HVERT.out hin) HTM
                          obtain ⟨u, h2⟩ : ∃ u, U'[ta]? = some u := ⟨_, List.getElem?_eq_getElem (by rw [HSV4.out.len]; exact HTM)⟩
                          rw [Ku.gI_at h2] at h1
                          rw [h2, h1]
                        have hcu := hiuQ1.cell hz
                        have hfu := hiuQ1.free ta
                        have hx4 : Q1.cell? ⟨cb, co + xg, none⟩ = some (.int .i64 (ta : Int)) := (HCR.out Q1 hbQ1).2 xg _ HEV.out
                        have HST : Hid (IntsBlk (Q1.setCell ⟨W.heap.size, ta, none⟩ (.int .i64 2)) W.heap.size (U'.set ta 2)) := hiuQ1.set ta 2
                        have HBO5 : Hid (BoolsIn (Q1.setCell ⟨W.heap.size, ta, none⟩ (.int .i64 2)) g2 M (Co.updB f' x true)) := hboQ1.same (heap_setCell_other Q1 ⟨W.heap.size, ta, none⟩ g2 _ (by show g2 ≠ W.heap.size; omega))
                        have HB5 : Hid (Below W.heap.size W (Q1.setCell ⟨W.heap.size, ta, none⟩ (.int .i64 2))) := hbQ1.setCell (p := ⟨W.heap.size, ta, none⟩) (Nat.le_refl _) _
                        have HSV5 : Hid (Ku.SeenV es m br ts (Ku.offV es ts k + min (s + 1) (L - 1)) (U'.set ta 2)) := by
                          have h1 := HSV4.out.step (HVERT.out hin) HTM
                          rw [show Ku.offV es ts k + min s (L - 1) + 1 = Ku.offV es ts k + min (s + 1) (L - 1) by omega] at h1
                          exact Nu.hid h1
                        rw [hQ1] at hcu hfu hx4 HST HBO5 HB5
                        clear hboQ hiuQ hbQ hQ1 hboQ1 hiuQ1 hbQ1 hz
                        go_wp2
                        go_roundw
                        case rel => exact ⟨s + 1, xg + 1, d' + 1, _, _, by omega, by have := HXG.out; omega, HDN.out, by go_num, by go_num, HBO5.out, HST.out, HSTEP.out, HSV5.out, HB5.out⟩
                        case measure => simp [intOf]; omega
                      · have hgg : ¬ ((xg : Int) + 1 < (C : Int)) := by have h1 := HXG.out; have h2 := HC.out; omega
                        have HSV5 : Hid (Ku.SeenV es m br ts (Ku.offV es ts k + min (s + 1) (L - 1)) U') := by
                          rw [show min (s + 1) (L - 1) = min s (L - 1) by omega]
                          exact HSV4
                        have HBO5 := Nu.hid hboQ1
                        have HST := Nu.hid hiuQ1
                        have HB5 := Nu.hid hbQ1
                        rw [hQ1] at HBO5 HST HB5
                        clear hboQ hiuQ hbQ hQ1 hboQ1 hiuQ1 hbQ1 hx3
                        go_wp2
                        go_roundw
                        case rel => exact ⟨s + 1, xg + 1, d' + 1, _, _, by omega, by have := HXG.out; omega, HDN.out, by go_num, by go_num, HBO5.out, HST.out, HSTEP.out, HSV5.out, HB5.out⟩
                        case measure => simp [intOf]; omega
                    · have hgi : ¬ ((xg : Int) < (C : Int)) := by omega
                      obtain rfl : L = s := by omega
                      have HAT3 : Hid (k + 1 = (Ku.out kd q i ++ Ku.inn kd i (j + 1)).length) := by
                        rw [HN.out, ← List.append_assoc, List.length_append, ← HAT2.out]
                        exact Nu.hid rfl
                      have HD4 : Hid (d' = Ku.offE ts (k + 1)) := by
                        rw [Ku.offE_next HTL.out, HL.out, ← HD3.out]
                        exact HDD
                      have HSV6 : Hid (Ku.SeenV es m br ts (Ku.offV es ts (k + 1)) U') := by
                        rw [Ku.offV_next HTL.out, HL.out, show L - 1 = min L (L - 1) by omega]
                        exact HSV4
                      clear hse hb hf hiu hsv hxg hd' hCL
                      go_wp2
                      go_roundw
                      case rel => exact ⟨j + 1, k + 1, d', _, f', U', by omega, by omega, by go_num, rfl, rfl, by omega, HAT3.out, HD4.out, HF4.out, HIU4.out, HSE4.out, HSV6.out, HB4.out⟩
                      case measure => simp [intOf]; omega
                · go_wp2_with fail
                  refine wp_region_lw (by kernel_rfl) (by kernel_rfl) ?_
                  repeat (go_big_quiet_step (fail))
                  refine wpQuiet_nil ?_
                  rintro _ ⟨D, rfl⟩
                  obtain ⟨Z1, hZ1⟩ : ∃ Z1, D.val = Z1 := ⟨_, rfl⟩
                  have HB1' : Hid (Below W.heap.size W Z1) := by rw [← hZ1]; exact HRD.out D
                  have HF3 : Hid (BoolsIn Z1 g2 M f) := by rw [← hZ1]; exact HF2.out.later D.h
                  have HIU3 : Hid (IntsBlk Z1 W.heap.size U) := by rw [← hZ1]; exact HIU2.out.later D.h
                  rw [hZ1]
                  clear A0 A1 A2 A3 A4 hne hZ1 rk r0 r1 r2 r3 r4 tb1 tb2
                  go_wp2_with fail
                  have HSVK : Hid (Ku.SeenV es m br ts (Ku.offV es ts k) U) := HSV2
                  go_loopw [11, 15] (fun ev cv wr => ∃ (s xg d' : Nat) (f' : Nat → Bool) (U' : List Int), s ≤ L ∧ xg = s + 1 ∧ d' = d + s ∧ ev = .int .i64 (d' : Int) ∧ cv = .int .i64 (xg : Int) ∧ BoolsIn wr g2 M f' ∧ IntsBlk wr W.heap.size U' ∧ Ku.SeenE ts d' f' ∧ Ku.SeenV es m br ts (Ku.offV es ts k + min s (L - 1)) U' ∧ Below W.heap.size W wr) (fun _ cv _ => C - (intOf cv).toNat)
                  case atStart => exact ⟨0, 1, d, f, U, Nat.zero_le _, rfl, rfl, rfl, rfl, HF3.out, HIU3.out, HSE2.out, by rw [Nat.zero_min, Nat.add_zero]; exact HSVK.out, HB1'.out⟩
                  case round =>
                    obtain ⟨s, xg, d', f', U', hsL, hxg, hd', rfl, rfl, hf, hiu, hse, hsv, hb⟩ := hrel
                    obtain ⟨X2, rfl⟩ : ∃ X2, X2 = wr := ⟨wr, rfl⟩
                    have hCL := HC.out
                    have HXG := Nu.hid hxg
                    have HDD := Nu.hid hd'
                    have HF4 := Nu.hid hf
                    have HIU4 := Nu.hid hiu
                    have HSE4 := Nu.hid hse
                    have HSV4 := Nu.hid hsv
                    have HB4 := Nu.hid hb
                    by_cases hsl : s < L
                    · have hgi : (xg : Int) < (C : Int) := by omega
                      have hg1 : (xg : Int) - 1 = (s : Int) := by omega
                      have hws : IntKind.i64.wrap (s : Int) = (s : Int) := by rw [IntKind.wrap_i64]; omega
                      have hs0 : (0 : Int) ≤ (s : Int) := by omega
                      have hsC : (s : Int) < (C : Int) := by omega
                      have hxg0 : (0 : Int) ≤ (xg : Int) := by omega
                      have hwg : IntKind.i64.wrap ((xg : Int) + 1) = (xg : Int) + 1 := by rw [IntKind.wrap_i64]; omega
                      have hwd : IntKind.i64.wrap ((d' : Int) + 1) = (d' : Int) + 1 := by rw [IntKind.wrap_i64]; omega
                      obtain ⟨h, hh⟩ : ∃ h, l[s]? = some h := ⟨_, List.getElem?_eq_getElem (by rw [HL.out]; exact hsl)⟩
                      obtain ⟨hhl, ev1, ev2⟩ := HWAY.out.at_ s h hh
                      have hFd : ts.flatten[d']? = some h := by
                        rw [hd', HD3.out]
                        exact Ku.edge_at HTL.out hh
                      have HON : Hid (∀ D : LW X2, Calls Try.prog 17 #[.agg #[.int .i64 (m : Int), .slice ao M ca], .int .i64 (Cs.fr es h : Int), .int .i64 (Cs.to es h : Int)] D.val fun e w' => e = .returned (.int .i64 ((h / 2 : Nat) : Int)) ∧ Below D.val.heap.size D.val w') := fun D => by
                        have hD : Below W.heap.size W D.val := hb.trans (D.h.mono hb.size)
                        have := on15_any (m : Int) ao ca es h D.val (HREAD.out D.val hD).2.2.1 HV.out hhl
                        rw [HM.out] at this
                        exact this
                      have HTM : Cs.to es h < m := (Cs.half_lt HV.out hhl).2
                      have HFRESH := Nu.hid (hse.fresh HS.out hFd)
                      have HXM : h / 2 < M := by have h1 := hhl; rw [HM.out] at h1; omega
                      have HSTEP := Nu.hid (hse.step hFd)
                      have HVERT : Hid (s + 1 < L → (ts.map (Ku.innV es)).flatten[Ku.offV es ts k + min s (L - 1)]? = some (Cs.to es h)) := fun h1 => by
                        rw [show min s (L - 1) = s by omega]
                        exact Ku.vert_at HTL.out hh (by rw [HL.out]; exact h1)
                      obtain ⟨fa, hfa⟩ : ∃ fa, Cs.fr es h = fa := ⟨_, rfl⟩
                      obtain ⟨ta, hta⟩ : ∃ ta, Cs.to es h = ta := ⟨_, rfl⟩
                      obtain ⟨x, hx⟩ : ∃ x, h / 2 = x := ⟨_, rfl⟩
                      rw [hfa] at HON ev1
                      rw [hta] at HON ev2 HVERT HTM
                      rw [hx] at HON HFRESH HXM HSTEP
                      have HRD2 : Hid (∀ D : LW X2, Below W.heap.size W D.val) := fun D => HB4.out.trans (D.h.mono HB4.out.size)
                      have X0 : ∀ D : LW X2, D.val.cell? ⟨w.heap.size, 0, none⟩ = some (.int .i64 (m : Int)) := fun D => (HREAD.out D.val (HRD2.out D)).1.1
                      have X1 : ∀ D : LW X2, D.val.cell? ⟨w.heap.size, 1, none⟩ = some (.slice ao M ca) := fun D => (HREAD.out D.val (HRD2.out D)).1.2
                      have X2' : ∀ D : LW X2, D.val.cell? ⟨cb, co + s, none⟩ = some (.int .i64 (fa : Int)) := fun D => (HCR.out D.val (HRD2.out D)).2 s _ ev1
                      have X3 : ∀ D : LW X2, D.val.cell? ⟨cb, co + xg, none⟩ = some (.int .i64 (ta : Int)) := fun D => (HCR.out D.val (HRD2.out D)).2 xg _ (by rw [HXG.out]; exact ev2)
                      have HX3 := Nu.hid X3
                      have HEV : Hid (c[xg]? = some (ta : Int)) := by rw [HXG.out]; exact ev2
                      have hne := LW.any X2
                      clear hse hb hf hiu hsv hxg hd' hh hhl ev1 ev2 hfa hta hx hCL hFd
                      go_wp2_with fail
                      refine wp_region_lw (by kernel_rfl) (by kernel_rfl) ?_
                      repeat (go_big_quiet_step ((first | (go_at_call 17; exact Calls.lw (HON.out _)))))
                      refine wpQuiet_nil ?_
                      rintro _ ⟨D, rfl⟩
                      obtain ⟨Q, hQ⟩ : ∃ Q, D.val = Q := ⟨_, rfl⟩
                      have hbQ : Below W.heap.size W Q := by rw [← hQ]; exact HRD2.out D
                      have hboQ : BoolsIn Q g2 M f' := by rw [← hQ]; exact HF4.out.later D.h
                      have hiuQ : IntsBlk Q W.heap.size U' := by rw [← hQ]; exact HIU4.out.later D.h
                      have hx3 : Q.cell? ⟨cb, co + xg, none⟩ = some (.int .i64 (ta : Int)) := by rw [← hQ]; exact HX3.out D
                      rw [hQ]
                      clear X0 X1 X2' X3 hne hQ
                      have hc1 := hboQ.cell HXM
                      rw [HFRESH.out] at hc1
                      have hfz := hboQ.free x
                      have hxn : ¬ ((x : Int) < 0) := by omega
                      have hx0 : (0 : Int) ≤ (x : Int) := by omega
                      have hxM : (x : Int) < (M : Int) := by omega
                      obtain ⟨Q1, hQ1⟩ : ∃ Q1, Q1 = Q.setCell ⟨g2, x, none⟩ (.bool true) := ⟨_, rfl⟩
                      have hboQ1 : BoolsIn Q1 g2 M (Co.updB f' x true) := by rw [hQ1]; exact hboQ.set x true
                      have hiuQ1 : IntsBlk Q1 W.heap.size U' := by
                        rw [hQ1]
                        exact (heap_setCell_other Q ⟨g2, x, none⟩ W.heap.size _ (by show W.heap.size ≠ g2; omega)).trans hiuQ
                      have hbQ1 : Below W.heap.size W Q1 := by rw [hQ1]; exact hbQ.setCell (p := ⟨g2, x, none⟩) (by show W.heap.size ≤ g2; omega) _
                      have HDN : Hid (d' + 1 = d + (s + 1)) := by have h1 := HDD.out; show d' + 1 = d + (s + 1); omega
                      by_cases hin : s + 1 < L
                      · have hgg : (xg : Int) + 1 < (C : Int) := by have h1 := HXG.out; have h2 := HC.out; omega
                        have hta0 : (0 : Int) ≤ (ta : Int) := by omega
                        have htam : (ta : Int) < (m : Int) := by omega
                        have hz : U'[ta]? = some 0 := by
                          have h1 := HSV4.out.fresh HS.out (HVERT.out hin) HTM
                          obtain ⟨u, h2⟩ : ∃ u, U'[ta]? = some u := ⟨_, List.getElem?_eq_getElem (by rw [HSV4.out.len]; exact HTM)⟩
                          rw [Ku.gI_at h2] at h1
                          rw [h2, h1]
                        have hcu := hiuQ1.cell hz
                        have hfu := hiuQ1.free ta
                        have hx4 : Q1.cell? ⟨cb, co + xg, none⟩ = some (.int .i64 (ta : Int)) := (HCR.out Q1 hbQ1).2 xg _ HEV.out
                        have HST : Hid (IntsBlk (Q1.setCell ⟨W.heap.size, ta, none⟩ (.int .i64 2)) W.heap.size (U'.set ta 2)) := hiuQ1.set ta 2
                        have HBO5 : Hid (BoolsIn (Q1.setCell ⟨W.heap.size, ta, none⟩ (.int .i64 2)) g2 M (Co.updB f' x true)) := hboQ1.same (heap_setCell_other Q1 ⟨W.heap.size, ta, none⟩ g2 _ (by show g2 ≠ W.heap.size; omega))
                        have HB5 : Hid (Below W.heap.size W (Q1.setCell ⟨W.heap.size, ta, none⟩ (.int .i64 2))) := hbQ1.setCell (p := ⟨W.heap.size, ta, none⟩) (Nat.le_refl _) _
                        have HSV5 : Hid (Ku.SeenV es m br ts (Ku.offV es ts k + min (s + 1) (L - 1)) (U'.set ta 2)) := by
                          have h1 := HSV4.out.step (HVERT.out hin) HTM
                          rw [show Ku.offV es ts k + min s (L - 1) + 1 = Ku.offV es ts k + min (s + 1) (L - 1) by omega] at h1
                          exact Nu.hid h1
                        rw [hQ1] at hcu hfu hx4 HST HBO5 HB5
                        clear hboQ hiuQ hbQ hQ1 hboQ1 hiuQ1 hbQ1 hz
                        go_wp2
                        go_roundw
                        case rel => exact ⟨s + 1, xg + 1, d' + 1, _, _, by omega, by have := HXG.out; omega, HDN.out, by go_num, by go_num, HBO5.out, HST.out, HSTEP.out, HSV5.out, HB5.out⟩
                        case measure => simp [intOf]; omega
                      · have hgg : ¬ ((xg : Int) + 1 < (C : Int)) := by have h1 := HXG.out; have h2 := HC.out; omega
                        have HSV5 : Hid (Ku.SeenV es m br ts (Ku.offV es ts k + min (s + 1) (L - 1)) U') := by
                          rw [show min (s + 1) (L - 1) = min s (L - 1) by omega]
                          exact HSV4
                        have HBO5 := Nu.hid hboQ1
                        have HST := Nu.hid hiuQ1
                        have HB5 := Nu.hid hbQ1
                        rw [hQ1] at HBO5 HST HB5
                        clear hboQ hiuQ hbQ hQ1 hboQ1 hiuQ1 hbQ1 hx3
                        go_wp2
                        go_roundw
                        case rel => exact ⟨s + 1, xg + 1, d' + 1, _, _, by omega, by have := HXG.out; omega, HDN.out, by go_num, by go_num, HBO5.out, HST.out, HSTEP.out, HSV5.out, HB5.out⟩
                        case measure => simp [intOf]; omega
                    · have hgi : ¬ ((xg : Int) < (C : Int)) := by omega
                      obtain rfl : L = s := by omega
                      have HAT3 : Hid (k + 1 = (Ku.out kd q i ++ Ku.inn kd i (j + 1)).length) := by
                        rw [HN.out, ← List.append_assoc, List.length_append, ← HAT2.out]
                        exact Nu.hid rfl
                      have HD4 : Hid (d' = Ku.offE ts (k + 1)) := by
                        rw [Ku.offE_next HTL.out, HL.out, ← HD3.out]
                        exact HDD
                      have HSV6 : Hid (Ku.SeenV es m br ts (Ku.offV es ts (k + 1)) U') := by
                        rw [Ku.offV_next HTL.out, HL.out, show L - 1 = min L (L - 1) by omega]
                        exact HSV4
                      clear hse hb hf hiu hsv hxg hd' hCL
                      go_wp2
                      go_roundw
                      case rel => exact ⟨j + 1, k + 1, d', _, f', U', by omega, by omega, by go_num, rfl, rfl, by omega, HAT3.out, HD4.out, HF4.out, HIU4.out, HSE4.out, HSV6.out, HB4.out⟩
                      case measure => simp [intOf]; omega
            · have hdj : ¬ ((j : Int) < (q : Int)) := by omega
              obtain rfl : q = j := by omega
              clear hat hd hf hiu hse hsv hb
              go_wp2
              go_roundw
              case rel => exact ⟨i + 1, k, d, f, U, by omega, rfl, rfl, by go_num, HAT2.out, HD2.out, HF2.out, HIU2.out, HSE2.out, HSV2.out, HBZ.out⟩
              case measure => simp [intOf]; omega
        · have hdi : ¬ ((i : Int) < (q : Int)) := by omega
          obtain rfl : q = i := by omega
          obtain ⟨⟨r0, r1⟩, ⟨r2, r3, r4⟩, -, -⟩ := HREAD.out Y hb
          have haP : at' = P := by rw [HPL.out, hat]
          have hdM : d = M := by rw [hd, haP, ← HP.out, HS.out.whole, HM.out]
          have t1 : ((at' : Int) == (P : Int)) = true := by rw [haP]; simp
          have t2 : ((d : Int) == (M : Int)) = true := by rw [hdM]; simp
          have HEND := Nu.hid (HB0.out.trans (hb.mono HB0.out.size))
          clear hat hd hf hiu hse hsv hb haP hdM
          go_wp2
          go_ret
          exact ⟨rfl, HEND.out⟩
end Go.Proofs.Ytdhaaodalchpkaa
