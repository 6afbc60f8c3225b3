/-
  The law FacesOwn: from behind its first loop to the writing loops.
-/
import Derived.Test.YtfkmldopfhdbkaaFaOw
import Derived.Test.YtfkmldopfhdbkaaFaV
import Derived.Test.YtfkmldopfhdbkaaLwQ
namespace Go.Proofs.Ytfkmldopfhdbkaa
open Go.ChangeShapes Go.WideShapes Go.ChangeAt Go.RowKit
namespace lawFOw

theorem cell_wrote {S : Nat → Prop} {V U : World} (h : Wrote S V U) {k i : Nat} {v : Value} (hv : V.cell? ⟨k, i, none⟩ = some v) (hn : ¬ S k) : U.cell? ⟨k, i, none⟩ = some v := by
  have hk := block_lt_of_cell hv
  rw [← hv]
  simp only [World.cell?]
  rw [h.block k hk hn]
theorem edges_wrote {S : Nat → Prop} {V U : World} {ao : Option Addr} {es : List (Int × Int)} (h : Wrote S V U) (he : EdgesAt V ao es) (hn : ∀ x, ao = some x → ¬ S x.block) : EdgesAt U ao es := fun j p hj => by
  obtain ⟨b, o, e, c0, c1⟩ := he j p hj
  have := hn _ e
  exact ⟨b, o, e, cell_wrote h c0 this, cell_wrote h c1 this⟩

section
variable {n : Int} {ao xo mo qo : Option Addr} {ca xc mc qc N B0 : Nat} {es : List (Int × Int)} {ls : List (List Int)} {ms qvs : List Value} {w V0 : World}

set_option maxRecDepth 100000 in
set_option maxHeartbeats 32000000 in
theorem mid {t0 t3 t4 t7 t8 t9 t10 t11 t12 t13 t14 t15 t16 t17 t18 t19 t20 t21 t22 t23 t24 t25 t26 t27 t28 t29 t30 t31 t32 t33 t34 t35 t36 t37 t38 t39 t40 t41 t42 t43 t44 t45 t46 t47 t48 t49 t50 t51 t52 t53 t54 t55 t56 t57 t58 t59 t60 t61 t62 t63 t64 t65 t66 t67 t68 t69 t70 t71 t72 t73 t74 t75 t76 t77 t78 t79 t80 t81 t82 t83 t84 t85 t86 t87 t88 t89 t90 t91 t92 t93 t94 t95 t96 t97 t98 t99 t100 t101 t102 t103 t104 t105 t106 t107 t108 t109 t110 t111 t112 t113 t114 t115 t116 t117 t118 t119 t120 t121 t122 t123 t124 t125 t126 t127 t128 t129 t130 t131 t132 t133 t134 t135 t136 t137 t138 t139 t140 t141 t142 t143 t144 t145 t146 t147 t148 t149 t150 t151 t152 t153 t154 t155 t156 t157 t158 t159 t160 t161 t162 t163 t164 t165 t166 t167 t168 t169 t170 t171 t172 t173 t174 t175 t176 t177 t178 t179 t180 t181 t182 t183 t184 t185 t186 t187 t188 t189 t190 t191 t192 t193 t194 t195 t196 t197 t198 t199 t200 t201 t202 t203 t204 t205 t206 t207 t208 t209 t210 t211 t212 t213 t214 t215 t216 t217 t218 t219 t220 t221 t222 t223 t224 t225 t226 t227 t228 t229 t230 t231 t232 t233 t234 t235 t236 t237 t238 t239 t240 t241 t242 t243 t244 t245 t246 t247 t248 t249 t250 t251 t252 t253 t254 t255 t256 t257 t258 t259 : Value} (hG : GS w n ao ca es xo ls V0) (he0 : EdgesAt w ao es) (hN : ls.length = N) (hm : RowsZ V0 B0 (.slice mo N mc) ms ls) (hq : RowsZ V0 B0 (.slice qo N qc) qvs (ls.map (· ++ [-7, -8]))) (hB0 : w.heap.size < B0) :
    Code.wp Try.prog (spine 5 (Try.f8.body.getD .skip)) (bodyPost Try.prog Try.f8 fun e w' => e = .returned (.bool true) ∧ Below w.heap.size w w') { tmps := #[t0, .slice xo N xc, .pointer (some ⟨w.heap.size, 0, none⟩), t3, t4, .slice mo N mc, .slice qo N qc, t7, t8, t9, t10, t11, t12, t13, t14, t15, t16, t17, t18, t19, t20, t21, t22, t23, t24, t25, t26, t27, t28, t29, t30, t31, t32, t33, t34, t35, t36, t37, t38, t39, t40, t41, t42, t43, t44, t45, t46, t47, t48, t49, t50, t51, t52, t53, t54, t55, t56, t57, t58, t59, t60, t61, t62, t63, t64, t65, t66, t67, t68, t69, t70, t71, t72, t73, t74, t75, t76, t77, t78, t79, t80, t81, t82, t83, t84, t85, t86, t87, t88, t89, t90, t91, t92, t93, t94, t95, t96, t97, t98, t99, t100, t101, t102, t103, t104, t105, t106, t107, t108, t109, t110, t111, t112, t113, t114, t115, t116, t117, t118, t119, t120, t121, t122, t123, t124, t125, t126, t127, t128, t129, t130, t131, t132, t133, t134, t135, t136, t137, t138, t139, t140, t141, t142, t143, t144, t145, t146, t147, t148, t149, t150, t151, t152, t153, t154, t155, t156, t157, t158, t159, t160, t161, t162, t163, t164, t165, t166, t167, t168, t169, t170, t171, t172, t173, t174, t175, t176, t177, t178, t179, t180, t181, t182, t183, t184, t185, t186, t187, t188, t189, t190, t191, t192, t193, t194, t195, t196, t197, t198, t199, t200, t201, t202, t203, t204, t205, t206, t207, t208, t209, t210, t211, t212, t213, t214, t215, t216, t217, t218, t219, t220, t221, t222, t223, t224, t225, t226, t227, t228, t229, t230, t231, t232, t233, t234, t235, t236, t237, t238, t239, t240, t241, t242, t243, t244, t245, t246, t247, t248, t249, t250, t251, t252, t253, t254, t255, t256, t257, t258, t259], defers := [] } V0 := by
  have hl24 := hG.l24
  have he16 := hG.e16
  have hNb0 : N ≤ 5864062014805 := by rw [← hN]; omega
  have HRL : Hid (∀ l ∈ ls, l.length ≤ 17592186043904) := fun l hl => by
    obtain ⟨j, hj⟩ := List.getElem?_of_mem hl
    obtain ⟨b, o, A, C, -, -, -, h1, -⟩ := hG.gr.rows j l hj
    exact h1
  have HM0 : Hid (∀ U, Below V0.heap.size V0 U → RwsAt U mo ls) := fun U hU => by
    obtain ⟨o, c, e, h, -⟩ := (hm.later hU).rws HRL.out
    rw [hN] at e
    cases e
    exact h
  have hV0 := hG.gr.low.size
  have hgl := lt_of_block hG.gr.box
  have HQ0 := Nu.hid hq
  have HNN := Nu.hid hN
  have HG0 := Nu.hid hG
  have HE0 := Nu.hid he0
  obtain ⟨C, hC⟩ : ∃ C, C = (Ro.check n es ls).2 := ⟨_, rfl⟩
  have HC := Nu.hid hC
  obtain ⟨A, hA⟩ : ∃ A, A = Fa.orN C (Fa.all es ls) := ⟨_, rfl⟩
  have HAE := Nu.hid hA
  obtain ⟨D, hD⟩ : ∃ D, D = Fa.orN C (Fa.left es ls) := ⟨_, rfl⟩
  have HDE := Nu.hid hD
  obtain ⟨K, hK⟩ : ∃ K, K = A.length := ⟨_, rfl⟩
  obtain ⟨L, hL⟩ : ∃ L, L = D.length := ⟨_, rfl⟩
  have HK := Nu.hid hK
  have HL := Nu.hid hL
  obtain ⟨gv, hgv⟩ : ∃ gv, gv = if C = 0 then Fa.gz n.toNat es ls else 0 := ⟨_, rfl⟩
  have HGV := Nu.hid hgv
  obtain ⟨fb, hfb⟩ : ∃ fb, fb = decide (C = 0 ∧ Fa.gz n.toNat es ls = 0) := ⟨_, rfl⟩
  have HFB := Nu.hid hfb
  have HSM : Hid (K ≤ 8388608 ∧ (∀ l ∈ A, l.length ≤ 8388608) ∧ L ≤ 8388608) := by
    rw [hK, hL, hA, hD]
    by_cases h : C = 0
    · rw [Fa.orN_ok h, Fa.orN_ok h]
      rw [hC] at h
      have hr := Ro.check_iff.1 h
      have hv := Si.valid_iff.1 hr.val
      have hfew := hv.few
      obtain ⟨N', rfl⟩ : ∃ N : Nat, n = (N : Int) := ⟨n.toNat, by have := hv.lo; omega⟩
      obtain ⟨h1, h2⟩ := Fa.all_row hr
      exact Nu.hid ⟨h1, h2, by rw [Fa.left_len]; omega⟩
    · rw [Fa.orN_bad h, Fa.orN_bad h]
      exact Nu.hid ⟨by simp, fun l hl => by simp at hl, by simp⟩
  have hel : es.length ≤ 4611686018427387904 := by omega
  have HOF : Hid (∀ (U : World) (ho : Option Addr) (hcap : Nat), Below V0.heap.size V0 U → EdgesAt U ho es → Calls Try.prog 10 #[.agg #[.int .i64 n, .slice ho es.length hcap], .slice mo N mc] U fun e w' => ∃ o q vs, e = .returned (.tuple #[.slice o K q, .int .i64 C]) ∧ RowsZ w' U.heap.size (.slice o K q) vs A ∧ Below U.heap.size U w') := fun U ho hcap hU hE => by
    have h := (HG0.out.later hU).of (cc := hcap) (yc := mc) hE (HM0.out U hU)
    rw [← HC.out, ← HAE.out, ← HK.out, HNN.out] at h
    exact h
  have HLF : Hid (∀ (U : World) (ho : Option Addr) (hcap : Nat), Below V0.heap.size V0 U → EdgesAt U ho es → Calls Try.prog 15 #[.agg #[.int .i64 n, .slice ho es.length hcap], .slice mo N mc] U fun e w' => ∃ o q, e = .returned (.tuple #[.slice o L q, .int .i64 C]) ∧ OwnZ w' U.heap.size (.slice o L q) D ∧ Below U.heap.size U w') := fun U ho hcap hU hE => by
    have h := (HG0.out.later hU).left (cc := hcap) (yc := mc) hE (HM0.out U hU)
    rw [← HC.out, ← HDE.out, ← HL.out, HNN.out] at h
    exact h
  have HGN : Hid (∀ (U : World) (ho : Option Addr) (hcap : Nat), Below V0.heap.size V0 U → EdgesAt U ho es → Calls Try.prog 18 #[.agg #[.int .i64 n, .slice ho es.length hcap], .slice mo N mc] U fun e w' => e = .returned (.tuple #[.int .i64 gv, .int .i64 C]) ∧ Below U.heap.size U w') := fun U ho hcap hU hE => by
    have h := (HG0.out.later hU).genus (cc := hcap) (yc := mc) hE (HM0.out U hU)
    unfold GenQ at h
    rw [← HC.out, ← HGV.out, HNN.out] at h
    exact h
  have HFT : Hid (∀ (U : World) (ho : Option Addr) (hcap : Nat), Below V0.heap.size V0 U → EdgesAt U ho es → Calls Try.prog 20 #[.agg #[.int .i64 n, .slice ho es.length hcap], .slice mo N mc] U fun e w' => e = .returned (.bool fb) ∧ Below U.heap.size U w') := fun U ho hcap hU hE => by
    have h := (HG0.out.later hU).flat (cc := hcap) (yc := mc) hE (HM0.out U hU)
    rw [← HC.out, ← HFB.out, HNN.out] at h
    exact h
  have HRO : Hid (∀ (U : World), Below V0.heap.size V0 U → Calls Try.prog 13 #[.agg #[.int .i64 n, .slice ao es.length ca], .slice xo N xc] U fun e w' => ∃ o q vs, e = .returned (.tuple #[.slice o K q, .int .i64 C]) ∧ RowsZ w' U.heap.size (.slice o K q) vs A ∧ Below U.heap.size U w') := fun U hU => by
    have h := (r12of_any n ao ca es xo xc ls U (HG0.out.later hU).gr.edges hel (HG0.out.later hU).gr.rows).mono (fun e w' h => h.form)
    unfold graphVal at h
    rw [← HC.out, ← HAE.out, ← HK.out, HNN.out] at h
    exact h
  have HRLf : Hid (∀ (U : World), Below V0.heap.size V0 U → Calls Try.prog 16 #[.agg #[.int .i64 n, .slice ao es.length ca], .slice xo N xc] U fun e w' => ∃ o q, e = .returned (.tuple #[.slice o L q, .int .i64 C]) ∧ OwnZ w' U.heap.size (.slice o L q) D ∧ Below U.heap.size U w') := fun U hU => by
    have h := (r12left_any n ao ca es xo xc ls U (HG0.out.later hU).gr.edges hel (HG0.out.later hU).gr.rows).mono (fun e w' h => h.form)
    unfold graphVal at h
    rw [← HC.out, ← HDE.out, ← HL.out, HNN.out] at h
    exact h
  have HCP := Nu.hid (rcopy_any n ao ca es V0 hG.gr.edges (by omega))
  unfold graphVal at HCP
  obtain ⟨x0, x1⟩ := hG.cells
  clear hG he0 hm hq hN hC hA hD hK hL hgv hfb
  simp only [Try.f8, Option.getD, spine]
  go_wp2_with (go_at_call 11; refine HCP.out.mono ?_; rintro e W1 ⟨hv, rfl, hoE, hb1⟩; refine Hid.out ?_)
  refine Nu.hid ?_
  obtain ⟨ho, hcap, rfl, -, -, heh, hhb⟩ := hoE.form
  obtain ⟨W2, hW2⟩ : ∃ W2, W2 = W1.alloc (.cells #[.int .i64 n, .slice ho es.length hcap] 24) := ⟨_, rfl⟩
  have hb12 : Below W1.heap.size W1 W2 := by rw [hW2]; exact (Below.refl _ _).alloc (Nat.le_refl _) _
  have hs2 : W1.heap.size < W2.heap.size := by rw [hW2]; simp
  have hbxh : W2.heap[W1.heap.size]? = some (.cells #[.int .i64 n, .slice ho es.length hcap] 24 (0, 0)) := by rw [hW2]; exact heap_alloc_new W1 _
  have HB2 := Nu.hid (hb1.trans (hb12.mono hb1.size))
  have hs1 := hb1.size
  have HHX : Hid (∀ U, Below W2.heap.size W2 U → U.cell? ⟨W1.heap.size, 0, none⟩ = some (.int .i64 n) ∧ U.cell? ⟨W1.heap.size, 1, none⟩ = some (.slice ho es.length hcap) ∧ EdgesAt U ho es) := fun U hU => by
    obtain ⟨y0, y1, -⟩ := pair_cells ((hU.block _ (lt_of_block hbxh)).trans hbxh)
    exact ⟨y0, y1, (heh.later hb12).later hU⟩
  have HHB : Hid (∀ x, ho = some x → V0.heap.size ≤ x.block ∧ x.block < W1.heap.size) := hhb
  have HW2 := Nu.hid hW2
  have HCa := Nu.hid (HOF.out W2 ho hcap HB2.out (HHX.out W2 (Below.refl _ _)).2.2)
  obtain ⟨h0, h1, -⟩ := HHX.out W2 (Below.refl _ _)
  rw [hW2] at h0 h1
  clear hoE heh hhb hb1 hb12 hbxh hW2 x0 x1 HCP
  go_wp2_with (go_at_call 10; rw [← HW2.out]; refine HCa.out.mono ?_; rintro e Wa ⟨aa, ac, avs, rfl, hra, hba⟩; refine Hid.out ?_)
  refine Nu.hid ?_
  have hsa := hba.size
  have HRA := Nu.hid hra
  have HB2a := Nu.hid hba
  have HBa := Nu.hid (HB2.out.trans (hba.mono HB2.out.size))
  clear h0 h1
  obtain ⟨h0, h1, hee⟩ := HHX.out Wa hba
  have HCb := Nu.hid (HOF.out Wa ho hcap HBa.out hee)
  clear hra hba hee HCa HW2
  go_wp2_with (go_at_call 10; refine HCb.out.mono ?_; rintro e Wb ⟨bo, bc, bvs, rfl, hrb, hbb⟩; refine Hid.out ?_)
  refine Nu.hid ?_
  have hsb := hbb.size
  have HRB := Nu.hid hrb
  have HBab := Nu.hid hbb
  have HB2b := Nu.hid (HB2a.out.trans (hbb.mono HB2a.out.size))
  have HBb := Nu.hid (HBa.out.trans (hbb.mono HBa.out.size))
  clear h0 h1
  obtain ⟨h0, h1, hee⟩ := HHX.out Wb HB2b.out
  have HCc := Nu.hid (HLF.out Wb ho hcap HBb.out hee)
  clear hrb hbb hee HCb
  go_wp2_with (go_at_call 15; refine HCc.out.mono ?_; rintro e Wc ⟨co, cc, rfl, hoc, hbc⟩; refine Hid.out ?_)
  refine Nu.hid ?_
  have hsc := hbc.size
  have HOC := Nu.hid hoc
  have HBbc := Nu.hid hbc
  have HB2c := Nu.hid (HB2b.out.trans (hbc.mono HB2b.out.size))
  have HBc := Nu.hid (HBb.out.trans (hbc.mono HBb.out.size))
  clear h0 h1
  obtain ⟨h0, h1, hee⟩ := HHX.out Wc HB2c.out
  have HCd := Nu.hid (HLF.out Wc ho hcap HBc.out hee)
  clear hoc hbc hee HCc
  go_wp2_with (go_at_call 15; refine HCd.out.mono ?_; rintro e Wd ⟨dd, dc, rfl, hod, hbd⟩; refine Hid.out ?_)
  refine Nu.hid ?_
  have hsd := hbd.size
  have HOD := Nu.hid hod
  have HBcd := Nu.hid hbd
  have HB2d := Nu.hid (HB2c.out.trans (hbd.mono HB2c.out.size))
  have HBd := Nu.hid (HBc.out.trans (hbd.mono HBc.out.size))
  clear h0 h1
  obtain ⟨h0, h1, hee⟩ := HHX.out Wd HB2d.out
  have HCe := Nu.hid (HGN.out Wd ho hcap HBd.out hee)
  clear hod hbd hee HCd
  go_wp2_with (go_at_call 18; refine HCe.out.mono ?_; rintro e We ⟨rfl, hbe⟩; refine Hid.out ?_)
  refine Nu.hid ?_
  have hse := hbe.size
  have HBde := Nu.hid hbe
  have HB2e := Nu.hid (HB2d.out.trans (hbe.mono HB2d.out.size))
  have HBe := Nu.hid (HBd.out.trans (hbe.mono HBd.out.size))
  clear h0 h1
  obtain ⟨h0, h1, hee⟩ := HHX.out We HB2e.out
  have HCf := Nu.hid (HFT.out We ho hcap HBe.out hee)
  clear hbe hee HCe
  go_wp2_with (go_at_call 20; refine HCf.out.mono ?_; rintro e Wf ⟨rfl, hbf⟩; refine Hid.out ?_)
  refine Nu.hid ?_
  have hsf := hbf.size
  have HBdf := Nu.hid (HBde.out.trans (hbf.mono HBde.out.size))
  have HBf := Nu.hid (HBe.out.trans (hbf.mono HBe.out.size))
  clear h0 h1 hbf HCf
  go_wp2
  -- what came in stays
  go_loopw [18] (fun cv wr => ∃ v : Nat, v ≤ N ∧ cv = .int .i64 (v : Int) ∧ Below Wf.heap.size Wf wr) (fun cv _ => N - (intOf cv).toNat)
  case atStart => exact ⟨0, Nat.zero_le _, rfl, Below.refl _ _⟩
  case round =>
    obtain ⟨v, hv, rfl, hb⟩ := hrel
    obtain ⟨W0, rfl⟩ : ∃ W0, W0 = wr := ⟨wr, rfl⟩
    have HB := Nu.hid hb
    have hbV : Below V0.heap.size V0 W0 := HBf.out.trans (hb.mono HBf.out.size)
    have hwv : IntKind.i64.wrap ((v : Int) + 1) = (v : Int) + 1 := by rw [IntKind.wrap_i64]; omega
    by_cases hvN : v < N
    · have hvNi : (v : Int) < (N : Int) := by omega
      have hv0 : (0 : Int) ≤ (v : Int) := by omega
      obtain ⟨l, hlv⟩ : ∃ l, ls[v]? = some l := ⟨_, List.getElem?_eq_getElem (by rw [HNN.out]; exact hvN)⟩
      have hll := HRL.out l (List.mem_of_getElem? hlv)
      obtain ⟨bx, ox, Ax, Cx, rfl, hcx, hLx, -, -, -⟩ := (HG0.out.later hbV).gr.rows v l hlv
      have hqv := HQ0.out.later hbV
      have hlq : (ls.map (· ++ [-7, -8]))[v]? = some (l ++ [-7, -8]) := by rw [List.getElem?_map, hlv]; rfl
      obtain ⟨y, hy⟩ := hqv.at' hlq
      have hown := hqv.row v y _ hy hlq
      obtain ⟨gq, cq, eq, hcq⟩ := row_at hqv hy
      rw [List.length_map, HNN.out] at eq
      cases eq
      obtain ⟨p, hp⟩ : ∃ p, p = l.length := ⟨_, rfl⟩
      obtain ⟨p2, hp2⟩ : ∃ p2, p2 = p + 2 := ⟨_, rfl⟩
      obtain ⟨g5, c5, rfl⟩ : ∃ g c, y = .slice (some ⟨g, 0, none⟩) p2 c := by
        have e : (l ++ [-7, -8]).length = p2 := by rw [hp2, hp]; simp
        have h5 := hown
        unfold OwnZ at h5
        rw [e, hp2] at h5
        obtain ⟨g, c, rfl⟩ := own_succ h5
        exact ⟨g, c, by rw [hp2]⟩
      have hw0 := OwnZ.cellAt hown (i := p) (x := -7) (by rw [hp]; simp)
      have hw1 := OwnZ.cellAt hown (i := p + 1) (x := -8) (by rw [hp]; simp)
      have hc5 : (p2 : Int) ≤ (c5 : Int) := by
        have h5 := hown
        have e : (l ++ [-7, -8]).length = p2 := by rw [hp2, hp]; simp
        unfold OwnZ at h5
        rw [e] at h5
        rcases h5.2 with ⟨e, _⟩ | ⟨g, cap, cur, e, _, _, h1, _⟩
        · cases e
        · cases e
          omega
      rw [← hp] at hcx
      have HSI : Hid (∀ D : LW W0, Calls Try.prog 17 #[.slice (some ⟨g5, 0, none⟩) p c5, .slice Ax p Cx] D.val fun e w' => e = .returned (.bool true) ∧ Below D.val.heap.size D.val w') := fun D => by
        have hI : IntsAt D.val (some ⟨g5, 0, none⟩) l := fun j x hj => by
          have hjl := (List.getElem?_eq_some_iff.1 hj).1
          have := OwnZ.cellAt (hown.later D.h) (i := j) (x := x) (by rw [List.getElem?_append_left hjl]; exact hj)
          exact ⟨g5, 0, rfl, by rw [Nat.zero_add]; exact this⟩
        refine (sameints_any (some ⟨g5, 0, none⟩) Ax c5 Cx p p l l D.val hp.symm hp.symm hI ((hLx.later D.h).ints) (by omega)).mono ?_
        rintro e w' ⟨e1, hb⟩
        exact ⟨by rw [e1]; simp, hb⟩
      have d0 : ∀ D : LW W0, D.val.cell? ⟨bx, ox + v, none⟩ = some (.slice Ax p Cx) := fun D => (D.h.cell (p := ⟨bx, ox + v, none⟩) (block_lt_of_cell hcx)).trans hcx
      have d1 : ∀ D : LW W0, D.val.cell? ⟨gq, v, none⟩ = some (.slice (some ⟨g5, 0, none⟩) p2 c5) := fun D => (D.h.cell (p := ⟨gq, v, none⟩) (block_lt_of_cell hcq)).trans hcq
      have d2 : ∀ D : LW W0, D.val.cell? ⟨g5, p, none⟩ = some (.int .i64 (-7)) := fun D => (D.h.cell (p := ⟨g5, p, none⟩) (block_lt_of_cell hw0)).trans hw0
      have d3 : ∀ D : LW W0, D.val.cell? ⟨g5, p + 1, none⟩ = some (.int .i64 (-8)) := fun D => (D.h.cell (p := ⟨g5, p + 1, none⟩) (block_lt_of_cell hw1)).trans hw1
      have hne := LW.any W0
      have hwp : IntKind.i64.wrap ((p : Int) + 1) = (p : Int) + 1 := by rw [IntKind.wrap_i64]; omega
      have i0 : (0 : Int) ≤ (p : Int) := by omega
      have i1 : (p : Int) < (p2 : Int) := by omega
      have i2 : (0 : Int) ≤ (p : Int) + 1 := by omega
      have i3 : (p : Int) + 1 < (p2 : Int) := by omega
      have i4 : (p : Int) ≤ (c5 : Int) := by omega
      have i5 : (p : Int) ≤ (p2 : Int) := by omega
      have t1 : ((-7 : Int) != -7) = false := by decide
      have t2 : ((-8 : Int) != -8) = false := by decide
      clear hb hbV hlv hLx hqv hlq hy hown hw0 hw1 hcq hp2 hp hll
      go_wp2_with fail
      refine wp_region_lw (by kernel_rfl) (by kernel_rfl) ?_
      repeat (go_big_quiet_step ((first | (go_at_call 17; exact Calls.lw (HSI.out _)))))
      refine wpQuiet_nil ?_
      rintro _ ⟨E, rfl⟩
      have HBE := Nu.hid (HB.out.trans (E.h.mono HB.out.size))
      obtain ⟨WE, hWE⟩ : ∃ WE, WE = E.val := ⟨_, rfl⟩
      rw [← hWE] at HBE ⊢
      clear d0 d1 d2 d3 hne hWE hcx
      go_wp2
      go_roundw
      case rel => exact ⟨v + 1, by omega, by go_num, HBE.out⟩
      case measure => simp [intOf]; omega
    · have hd : ¬ (v : Int) < (N : Int) := by omega
      have HBW := Nu.hid hbV
      have HCg := Nu.hid (HRO.out W0 hbV)
      obtain ⟨x0, x1⟩ := (HG0.out.later hbV).cells
      clear hb hbV
      go_wp2_with (go_at_call 13; refine HCg.out.mono ?_; rintro e Wg ⟨wo, wc, wvs, rfl, hrw, hbg⟩; refine Hid.out ?_)
      refine Nu.hid ?_
      have HRW := Nu.hid hrw
      have HB0g := Nu.hid hbg
      have HBg := Nu.hid (HBW.out.trans (hbg.mono HBW.out.size))
      have HCh := Nu.hid (HRLf.out Wg HBg.out)
      clear x0 x1
      obtain ⟨x0, x1⟩ := (HG0.out.later HBg.out).cells
      clear hrw hbg HCg
      go_wp2_with (go_at_call 16; refine HCh.out.mono ?_; rintro e V ⟨le, lc, rfl, hol, hbh⟩; refine Hid.out ?_)
      refine Nu.hid ?_
      have s0 := HB.out.size
      have s1 := HB0g.out.size
      have s2 := hbh.size
      have hb0V : Below W0.heap.size W0 V := HB0g.out.trans (hbh.mono HB0g.out.size)
      have hbfV : Below Wf.heap.size Wf V := HB.out.trans (hb0V.mono HB.out.size)
      have hbdV : Below Wd.heap.size Wd V := HBdf.out.trans (hbfV.mono HBdf.out.size)
      have hbcV : Below Wc.heap.size Wc V := HBcd.out.trans (hbdV.mono HBcd.out.size)
      have hbbV : Below Wb.heap.size Wb V := HBbc.out.trans (hbcV.mono HBbc.out.size)
      have hbaV : Below Wa.heap.size Wa V := HBab.out.trans (hbbV.mono HBab.out.size)
      have hb2V : Below W2.heap.size W2 V := HB2a.out.trans (hbaV.mono HB2a.out.size)
      have hb00 : Below V0.heap.size V0 V := HB2.out.trans (hb2V.mono HB2.out.size)
      have ia : ∀ b, inV avs b → W2.heap.size ≤ b ∧ b < Wa.heap.size := fun b hb => by
        obtain ⟨u, z, hz, hzb⟩ := hb
        obtain ⟨q, hq⟩ := HRA.out.at hz
        exact World.ownsRow.lt (HRA.out.row u z q hz hq) b hzb
      have ib : ∀ b, ((Value.slice bo K bc).ownBlock = some b ∨ inV bvs b) → Wa.heap.size ≤ b ∧ b < Wb.heap.size := fun b hb => by
        rcases hb with hb | ⟨u, z, hz, hzb⟩
        · exact World.ownsRow.lt HRB.out.outer b hb
        · obtain ⟨q, hq⟩ := HRB.out.at hz
          exact World.ownsRow.lt (HRB.out.row u z q hz hq) b hzb
      have ic : ∀ b, (Value.slice co L cc).ownBlock = some b → Wb.heap.size ≤ b ∧ b < Wc.heap.size := fun b hb => World.ownsRow.lt HOC.out b hb
      have idd : ∀ b, (Value.slice dd L dc).ownBlock = some b → Wc.heap.size ≤ b ∧ b < Wd.heap.size := fun b hb => World.ownsRow.lt HOD.out b hb
      have iw : ∀ b, ((Value.slice wo K wc).ownBlock = some b ∨ inV wvs b) → W0.heap.size ≤ b := fun b hb => by
        rcases hb with hb | ⟨u, z, hz, hzb⟩
        · exact (World.ownsRow.lt HRW.out.outer b hb).1
        · obtain ⟨q, hq⟩ := HRW.out.at hz
          exact (World.ownsRow.lt (HRW.out.row u z q hz hq) b hzb).1
      have il : ∀ b, (Value.slice le L lc).ownBlock = some b → Wg.heap.size ≤ b := fun b hb => (World.ownsRow.lt hol b hb).1
      have iq : ∀ b, ((Value.slice qo N qc).ownBlock = some b ∨ inV qvs b) → B0 ≤ b ∧ b < V0.heap.size := fun b hb => by
        rcases hb with hb | ⟨u, z, hz, hzb⟩
        · exact World.ownsRow.lt HQ0.out.outer b hb
        · obtain ⟨q, hq⟩ := HQ0.out.at hz
          exact World.ownsRow.lt (HQ0.out.row u z q hz hq) b hzb
      have hV2 := HB2.out.size
      have hSI : ∀ b, (inV avs b ∨ (Value.slice co L cc).ownBlock = some b ∨ inV qvs b) → (W2.heap.size ≤ b ∧ b < Wa.heap.size) ∨ (Wb.heap.size ≤ b ∧ b < Wc.heap.size) ∨ (B0 ≤ b ∧ b < V0.heap.size) := fun b hb => by
        rcases hb with hb | hb | hb
        · exact .inl (ia b hb)
        · exact .inr (.inl (ic b hb))
        · exact .inr (.inr (iq b (.inr hb)))
      have hgV := (HG0.out.later hb00)
      obtain ⟨k0, k1, kE⟩ := HHX.out V hb2V
      have hHH := HHB.out
      have hlowV := hgV.gr.low
      have HKP : Hid (∀ U, Wrote (fun b => inV avs b ∨ (Value.slice co L cc).ownBlock = some b ∨ inV qvs b) V U → Keep w.heap.size W1.heap.size Wa.heap.size W0.heap.size Wc.heap.size Wg.heap.size n ao ho ca hcap es bo wo dd le K L bc wc dc lc bvs wvs A D U) := fun U hU => by
        refine ⟨cell_wrote hU hgV.cells.1 (fun h => by have := hSI _ h; omega), cell_wrote hU hgV.cells.2 (fun h => by have := hSI _ h; omega), cell_wrote hU k0 (fun h => by have := hSI _ h; omega), cell_wrote hU k1 (fun h => by have := hSI _ h; omega), ?_, edges_wrote hU kE (fun x hx h => by have h1 := hHH x hx; have := hSI _ h; omega), ?_, ?_, ?_, ?_⟩
        · exact HE0.out.later (hlowV.trans (hU.below hlowV.size (fun b hb => by have := hSI _ hb; omega)))
        · exact (HRB.out.later hbbV).kept fun b hb hlt => hU.block b hlt (fun h => by have h1 := ib b hb; have := hSI _ h; omega)
        · exact (HRW.out.later hbh).kept fun b hb hlt => hU.block b hlt (fun h => by have h1 := iw b hb; have := hSI _ h; omega)
        · exact (HOD.out.later hbdV).same fun b hb hlt => hU.block b hlt (fun h => by have h1 := idd b hb; have := hSI _ h; omega)
        · exact hol.same fun b hb hlt => hU.block b hlt (fun h => by have h1 := il b hb; have := hSI _ h; omega)
      have HRAV := Nu.hid (HRA.out.later hbaV)
      have HOCV := Nu.hid (HOC.out.later hbcV)
      have HQV := Nu.hid (HQ0.out.later hb00)
      have hsz0 : W2.heap.size ≤ V.heap.size := by omega
      have hWlen : ((ls.map (· ++ [-7, -8])).length) = N := by rw [List.length_map, HNN.out]
      have hWL : ∀ l ∈ ls.map (· ++ [-7, -8]), l.length ≤ 17592186043906 := fun l hl => by
        obtain ⟨l0, h0, rfl⟩ := List.mem_map.1 hl
        have := HRL.out l0 h0
        simp
        omega
      have hNb : N ≤ 5864062014805 := by rw [← HNN.out]; omega
      have hx1 : ∀ b, inV avs b → (Value.slice co L cc).ownBlock ≠ some b := fun b h1 h2 => by have := ia b h1; have := ic b h2; omega
      have hx2 : ∀ b, inV avs b → ¬ ((Value.slice qo N qc).ownBlock = some b ∨ inV qvs b) := fun b h1 h2 => by have := ia b h1; have := iq b h2; omega
      have hx3 : ∀ b, (Value.slice co L cc).ownBlock = some b → ¬ ((Value.slice qo N qc).ownBlock = some b ∨ inV qvs b) := fun b h1 h2 => by have := ic b h1; have := iq b h2; omega
      have hx4 : ∀ b, (inV avs b ∨ (Value.slice co L cc).ownBlock = some b ∨ inV qvs b) → w.heap.size ≤ b := fun b hb => by have := hSI b hb; omega
      repeat (first | exact tail HRAV.out HK.out.symm HSM.out.2.1 HSM.out.1 hsz0 HOCV.out HL.out.symm HSM.out.2.2 HQV.out hWlen hNb hWL hx1 hx2 hx3 HKP.out hel hlowV hx4 | go_step)
end
end lawFOw
end Go.Proofs.Ytfkmldopfhdbkaa
