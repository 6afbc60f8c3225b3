import Derived.Test.YtdhaaodalchpkaaMgV
import Derived.Test.YtdhaaodalchpkaaKyT
import Derived.Test.YtdhaaodalchpkaaMgY
import Derived.Test.YtdhaaodalchpkaaMgW
import Derived.Test.YtdhaaodalchpkaaKuU
import Derived.Test.YtdhaaodalchpkaaMgQ
import Derived.Test.YtdhaaodalchpkaaCsNew
/-
  The law KuraMade: behind its names: the pairs get other names, the graph is made, told and shown.
-/
namespace Go.Proofs.Ytdhaaodalchpkaa
open Go.ChangeShapes Go.WideShapes Go.ChangeAt Go.RowKit Go.Sort
namespace lawKM

def zi (p : Nat × Nat) : Int × Int := ((p.1 : Int), (p.2 : Int))
def dbl (f : Nat → Nat) (v : Nat) : Nat := 2 * f v
/-- The first i have their new names. -/
def mixR (f : Nat → Nat) (prs : List (Nat × Nat)) (i : Nat) : List (Int × Int) := (prs.take i).map (Ku.zp (dbl f)) ++ (prs.drop i).map zi
theorem mixR_len (f : Nat → Nat) (prs : List (Nat × Nat)) (i : Nat) : (mixR f prs i).length = prs.length := by unfold mixR; simp; omega
theorem mixR_at {f : Nat → Nat} {prs : List (Nat × Nat)} {i : Nat} {p : Nat × Nat} (h : prs[i]? = some p) : (mixR f prs i)[i]? = some (zi p) := by
  have hi := (List.getElem?_eq_some_iff.1 h).1
  unfold mixR
  rw [List.getElem?_append_right (by simp; omega)]
  simp only [List.length_map, List.length_take, Nat.min_eq_left (Nat.le_of_lt hi), Nat.sub_self, List.getElem?_map, List.getElem?_drop, Nat.add_zero, h]
  rfl
theorem mixR_set {f : Nat → Nat} {prs : List (Nat × Nat)} {i : Nat} {p : Nat × Nat} (h : prs[i]? = some p) : (mixR f prs i).set i (Ku.zp (dbl f) p) = mixR f prs (i + 1) := by
  obtain ⟨hi, e⟩ := List.getElem?_eq_some_iff.1 h
  have hl : ((prs.take i).map (Ku.zp (dbl f))).length = i := by simp; omega
  unfold mixR
  rw [List.set_append_right _ _ (by omega), hl, Nat.sub_self, List.drop_eq_getElem_cons hi, List.map_cons, List.set_cons_zero, List.take_add_one, h, List.map_append, List.append_assoc]
  rfl
theorem flatE_set16 : ∀ (ps : List (Int × Int)) (a : Nat) (q : Int × Int), flatE (ps.set a q) = ((flatE ps).set (a * 2) (.int .i64 q.1)).set (a * 2 + 1) (.int .i64 q.2)
  | [], a, q => by simp [flatE]
  | p :: ps, 0, q => by simp [flatE]
  | p :: ps, a + 1, q => by
    have ih := flatE_set16 ps a q
    have e : (a + 1) * 2 = a * 2 + 1 + 1 := by omega
    rw [e]
    simpa [flatE] using ih
theorem ownP_put {w : World} {B g k c : Nat} {q : List (Int × Int)} (h : OwnP w B (.slice (some ⟨g, 0, none⟩) k c) q) {i : Nat} (hi : i < q.length) (x y : Int) :
    OwnP ((w.setCell ⟨g, i * 2, none⟩ (.int .i64 x)).setCell ⟨g, i * 2 + 1, none⟩ (.int .i64 y)) B (.slice (some ⟨g, 0, none⟩) k c) (q.set i (x, y)) ∧
    (∃ u, (w.setCell ⟨g, i * 2, none⟩ (.int .i64 x)).cell? ⟨g, i * 2 + 1, none⟩ = some u) ∧ w.frozen? ⟨g, i * 2, none⟩ = false ∧ (w.setCell ⟨g, i * 2, none⟩ (.int .i64 x)).frozen? ⟨g, i * 2 + 1, none⟩ = false := by
  have hk : k = q.length := by
    rcases h.2 with ⟨h', h0⟩ | ⟨g', cap', cur, e, _⟩
    · injection h'
      omega
    · injection e
  subst hk
  have h' : w.ownsRow B 50 2 (.slice (some ⟨g, 0, none⟩) q.length c) q.length (flatE q) := h
  obtain ⟨s1, _⟩ := h'.stored (i * 2) (.int .i64 x)
  obtain ⟨s2, _⟩ := s1.stored (i * 2 + 1) (.int .i64 y)
  have hl := flatE_length q
  have c1 := World.ownsRow.cells s1 (g := g) rfl (i * 2 + 1) _ (List.getElem?_eq_getElem (by rw [List.length_set]; omega))
  rw [addrE] at c1
  refine ⟨?_, ⟨_, c1⟩, h'.frozenAt _, s1.frozenAt _⟩
  unfold OwnP
  rw [List.length_set, flatE_set16]
  exact s2
theorem ownP_at {w : World} {B g k c : Nat} {q : List (Int × Int)} (h : OwnP w B (.slice (some ⟨g, 0, none⟩) k c) q) {i : Nat} {p : Int × Int} (hp : q[i]? = some p) : w.cell? ⟨g, i * 2, none⟩ = some (.int .i64 p.1) ∧ w.cell? ⟨g, i * 2 + 1, none⟩ = some (.int .i64 p.2) := by
  obtain ⟨ao, cap, e, hat, -⟩ := h.form
  cases e
  obtain ⟨b, o, e, h0, h1⟩ := hat i p hp
  cases e
  rw [Nat.zero_add] at h0 h1
  exact ⟨h0, h1⟩
theorem ownP_len {w : World} {B g k c : Nat} {q : List (Int × Int)} (h : OwnP w B (.slice (some ⟨g, 0, none⟩) k c) q) : k = q.length := by
  obtain ⟨ao, cap, e, -, -⟩ := h.form
  cases e
  rfl

theorem ownP_edges {w : World} {B k c : Nat} {a : Option Addr} {q : List (Int × Int)} (h : OwnP w B (.slice a k c) q) : EdgesAt w a q := by
  obtain ⟨ao, cap, e, hat, -⟩ := h.form
  cases e
  exact hat

section
variable {two : Bool} {kd q n N L0 g c B gn cn : Nat} {prs : List (Nat × Nat)} {P : List (List Nat)} {f : Nat → Nat} {w V : World}

theorem wr1 {n : Nat} (h : n ≤ 66) : IntKind.i64.wrap (2 * (n : Int)) = 2 * (n : Int) := by rw [IntKind.wrap_i64]; omega
theorem wr2 {n M : Nat} (h : n ≤ 66) (hM : M = 2 * n + 1) : IntKind.i64.wrap (2 * (n : Int) + 1) = (M : Int) := by rw [IntKind.wrap_i64]; omega
/-- What the graph is. -/
theorem told (hk : (kd = 1 ∧ q = 5) ∨ (kd = 2 ∧ q = 6)) (hD : Ku.Div q n (Ku.out kd q q) prs P) (hqn : q ≤ n) (hn : n ≤ 66) (hN : prs.length ≤ 70) (hinj : ∀ a b, a < n → b < n → f a = f b → a = b) (hlt : ∀ a, a < n → f a < n) :
    ∃ es br ps ts, Si.mk ((2 * n + 1 : Nat) : Int) (prs.map (Ku.zp (dbl f))) = (((2 * n + 1 : Nat) : Int), es, 0) ∧ Si.Val ((2 * n + 1 : Nat) : Int) es ∧ es.length ≤ 70 ∧ Ku.kr ((2 * n + 1 : Nat) : Int) es = ((kd : Int), br, ps, true, 0) ∧ Ku.Shows es (2 * n + 1) kd q br ps ts ∧ ps.length = (Ku.out kd q q).length := by
  have hf2 : ∀ a b, a < n → b < n → dbl f a = dbl f b → a = b := fun a b ha hb e => hinj a b ha hb (by unfold dbl at e; omega)
  have hm2 : ∀ a, a < n → dbl f a < 2 * n + 1 := fun a ha => by have := hlt a ha; unfold dbl; omega
  obtain ⟨hv, hs, hl⟩ := Ku.div_shows hk hD hqn hf2 hm2 (by omega) (by omega)
  obtain ⟨br, ps, hr⟩ := Ku.shows_rec (hv := hv) hs
  obtain ⟨k', q', ts, e, hs', _, _⟩ := Ku.rec_shows hv hr
  obtain rfl : kd = k' := by omega
  have hq' : q' = q := by
    rcases hk with h | h <;> rcases hs'.kdq with h' | h' <;> omega
  subst hq'
  refine ⟨_, br, ps, ts, ?_, hv, by omega, ?_, hs', hs'.pl⟩
  · have hin : Si.inside ((2 * n + 1 : Nat) : Int) (prs.map (Ku.zp (dbl f))) = true := Si.inside_yes fun j p hp => by
      obtain ⟨r, hr, rfl⟩ := List.mem_map.1 (List.mem_of_getElem? hp)
      have a1 := hD.lt r hr
      have a2 := hm2 _ a1.1
      have a3 := hm2 _ a1.2
      unfold Si.inn Ku.zp
      dsimp only
      omega
    unfold Si.mk
    rw [if_neg (by rw [hin]; simp; omega), if_neg (by omega)]
  · rw [Ku.kr_yes hv, hr]

set_option maxRecDepth 100000 in
set_option maxHeartbeats 32000000 in
theorem made_tail {t1 t2 t3 t4 t5 t6 t9 t10 t12 t13 t15 t16 t17 t18 t19 t20 t21 t22 t23 t24 t25 t26 t27 t28 t29 t30 t31 t32 t33 t34 t35 t36 t37 t38 t39 t40 t41 t42 t43 t44 t45 t46 t47 t48 t49 t50 t51 t52 t53 t54 t55 t56 t57 t58 t59 t60 t61 t62 t63 t64 t65 t66 t67 t68 t69 t70 t71 t72 t73 t74 t75 t76 t77 t78 t79 t80 t81 t82 t83 t84 t85 t86 t87 t88 t89 t90 t91 t92 t93 t94 t95 t96 t97 t98 t99 t100 t101 t102 t103 t104 t105 t106 t107 t108 t109 t110 t111 t112 t113 t114 t115 t116 t117 t118 t119 t120 t121 t122 t123 t124 t125 t126 t127 t128 t129 t130 t131 t132 t133 t134 t135 t136 t137 t138 t139 t140 t141 t142 t143 t144 t145 t146 t147 t148 t149 t150 t151 t152 t153 t154 t155 t156 t157 t158 t159 t160 t161 t162 t163 t164 t165 t166 t167 t168 t169 t170 t171 t172 t173 t174 t175 t176 t177 t178 t179 t180 t181 t182 t183 t184 t185 t186 t187 t188 t189 t190 t191 t192 t193 t194 t195 t196 t197 t198 t199 t200 t201 t202 t203 t204 t205 t206 t207 t208 : Value} (hk : (kd = 1 ∧ q = 5 ∧ two = false) ∨ (kd = 2 ∧ q = 6 ∧ two = true)) (hD : Ku.Div q n (Ku.out kd q q) prs P) (hN : prs.length = N) (hN0 : 0 < N) (hNb : N ≤ 70) (hqn : q ≤ n) (hnb : n ≤ 66) (hinj : ∀ a b, a < n → b < n → f a = f b → a = b) (hflt : ∀ a, a < n → f a < n)
    (hp : OwnP V B (.slice (some ⟨g, 0, none⟩) N c) (prs.map zi)) (hB : w.heap.size ≤ B) (hnm : IntsIn V gn ((List.range n).map fun v => (f v : Int))) (hgg : gn ≠ g) (hb : Below w.heap.size w V) (hL0 : (Ku.out kd q q).length = L0) :
    Code.wp Try.prog (Ku.spine15 11 (Try.f7.body.getD .skip)) (bodyPost Try.prog Try.f7 fun e w' => e = .returned (.bool true) ∧ Below w.heap.size w w') { tmps := #[.bool two, t1, t2, t3, t4, t5, t6, .slice (some ⟨g, 0, none⟩) N c, .int .i64 (n : Int), t9, t10, .int .i64 (L0 : Int), t12, t13, .slice (some ⟨gn, 0, none⟩) n cn, t15, t16, t17, t18, t19, t20, t21, t22, t23, t24, t25, t26, t27, t28, t29, t30, t31, t32, t33, t34, t35, t36, t37, t38, t39, t40, t41, t42, t43, t44, t45, t46, t47, t48, t49, t50, t51, t52, t53, t54, t55, t56, t57, t58, t59, t60, t61, t62, t63, t64, t65, t66, t67, t68, t69, t70, t71, t72, t73, t74, t75, t76, t77, t78, t79, t80, t81, t82, t83, t84, t85, t86, t87, t88, t89, t90, t91, t92, t93, t94, t95, t96, t97, t98, t99, t100, t101, t102, t103, t104, t105, t106, t107, t108, t109, t110, t111, t112, t113, t114, t115, t116, t117, t118, t119, t120, t121, t122, t123, t124, t125, t126, t127, t128, t129, t130, t131, t132, t133, t134, t135, t136, t137, t138, t139, t140, t141, t142, t143, t144, t145, t146, t147, t148, t149, t150, t151, t152, t153, t154, t155, t156, t157, t158, t159, t160, t161, t162, t163, t164, t165, t166, t167, t168, t169, t170, t171, t172, t173, t174, t175, t176, t177, t178, t179, t180, t181, t182, t183, t184, t185, t186, t187, t188, t189, t190, t191, t192, t193, t194, t195, t196, t197, t198, t199, t200, t201, t202, t203, t204, t205, t206, t207, t208], defers := [] } V := by
  have hgB : w.heap.size ≤ g := by
    have := (World.ownsRow.lt hp g rfl).1
    omega
  obtain ⟨es, br, ps, ts, hmk, hval, hesl, hkr, hsh, hpl⟩ := told (by rcases hk with h | h <;> omega) hD hqn hnb (by omega) hinj hflt
  have HD := Nu.hid hD
  have HN := Nu.hid hN
  have HFL := Nu.hid hflt
  have HMK := Nu.hid hmk
  have HVAL := Nu.hid hval
  have HESL := Nu.hid hesl
  have HKR := Nu.hid hkr
  have HSH := Nu.hid hsh
  have HPL := Nu.hid (hpl.trans hL0)
  have HL0 := Nu.hid hL0
  have HKD := Nu.hid hk
  have HB0 := Nu.hid hb
  have HP0 : Hid (OwnP V B (.slice (some ⟨g, 0, none⟩) N c) (mixR f prs 0)) := by unfold mixR; simpa using Nu.hid hp
  have HNM0 := Nu.hid hnm
  clear hD hN hinj hflt hp hnm hmk hval hesl hkr hsh hpl hL0 hk hb
  simp only [Try.f7, Option.getD, Ku.spine15]
  go_wp2
  go_loopw [143] (fun cv wr => ∃ i : Nat, i ≤ N ∧ cv = .int .i64 (i : Int) ∧ OwnP wr B (.slice (some ⟨g, 0, none⟩) N c) (mixR f prs i) ∧ IntsIn wr gn ((List.range n).map fun v => (f v : Int)) ∧ Below w.heap.size w wr) (fun cv _ => N - (intOf cv).toNat)
  case atStart => exact ⟨0, Nat.zero_le _, rfl, HP0.out, HNM0.out, HB0.out⟩
  case round =>
    obtain ⟨i, hi, rfl, hrow, hnm, hb⟩ := hrel
    have HROW := Nu.hid hrow
    have HNM := Nu.hid hnm
    have HB := Nu.hid hb
    have hwi : IntKind.i64.wrap ((i : Int) + 1) = (i : Int) + 1 := by rw [IntKind.wrap_i64]; omega
    by_cases hlt : i < N
    · have hlti : (i : Int) < (N : Int) := by omega
      have hi0 : (0 : Int) ≤ (i : Int) := by omega
      obtain ⟨p, hpi⟩ : ∃ p, prs[i]? = some p := ⟨_, List.getElem?_eq_getElem (by rw [HN.out]; exact hlt)⟩
      obtain ⟨a, b⟩ := p
      have hab := HD.out.lt _ (List.mem_of_getElem? hpi)
      dsimp only at hab
      obtain ⟨c0, c1⟩ := ownP_at hrow (mixR_at (f := f) hpi)
      unfold zi at c0 c1
      dsimp only at c0 c1
      have ha := HFL.out a hab.1
      have hb' := HFL.out b hab.2
      have cn0 : wr.cell? ⟨gn, a, none⟩ = some (.int .i64 (f a : Int)) := hnm.cell (by rw [List.getElem?_map, List.getElem?_range hab.1]; rfl)
      have cn1 : wr.cell? ⟨gn, b, none⟩ = some (.int .i64 (f b : Int)) := hnm.cell (by rw [List.getElem?_map, List.getElem?_range hab.2]; rfl)
      obtain ⟨X, hX⟩ : ∃ X : Nat, dbl f a = X := ⟨_, rfl⟩
      obtain ⟨Y, hY⟩ : ∃ Y : Nat, dbl f b = Y := ⟨_, rfl⟩
      have wX : IntKind.i64.wrap (2 * (f a : Int)) = (X : Int) := by rw [IntKind.wrap_i64, ← hX]; unfold dbl; omega
      have wY : IntKind.i64.wrap (2 * (f b : Int)) = (Y : Int) := by rw [IntKind.wrap_i64, ← hY]; unfold dbl; omega
      have a0 : (0 : Int) ≤ (a : Int) := by omega
      have a1 : (a : Int) < (n : Int) := by omega
      have b0 : (0 : Int) ≤ (b : Int) := by omega
      have b1 : (b : Int) < (n : Int) := by omega
      obtain ⟨p1, p2, p3, p4⟩ := ownP_put hrow (i := i) (by rw [mixR_len, HN.out]; exact hlt) (X : Int) (Y : Int)
      obtain ⟨u, p2⟩ := p2
      have hset : (mixR f prs i).set i ((X : Int), (Y : Int)) = mixR f prs (i + 1) := by
        rw [← hX, ← hY]
        exact mixR_set hpi
      rw [hset] at p1
      have HP1 := Nu.hid p1
      have HN1 := Nu.hid ((hnm.other hgg (.int .i64 (X : Int)) (i := i * 2)).other hgg (.int .i64 (Y : Int)) (i := i * 2 + 1))
      have HB1 := Nu.hid ((hb.setCell (p := ⟨g, i * 2, none⟩) hgB (.int .i64 (X : Int))).setCell (p := ⟨g, i * 2 + 1, none⟩) hgB (.int .i64 (Y : Int)))
      clear hrow hnm hb p1 hset hX hY hpi ha hb' hab
      go_wp2_with fail
      go_big_region
      go_wp2
      go_roundw
      case rel => exact ⟨i + 1, by omega, by go_num, HP1.out, HN1.out.drew, HB1.out.drew⟩
      case measure => simp [intOf]; omega
    · have hd : ¬ (i : Int) < (N : Int) := by omega
      have hiN : i = N := by omega
      rw [hiN] at hrow
      clear hiN
      have hall : mixR f prs N = prs.map (Ku.zp (dbl f)) := by
        unfold mixR
        rw [List.take_of_length_le (by rw [HN.out]; exact Nat.le_refl _), List.drop_of_length_le (by rw [HN.out]; exact Nat.le_refl _)]
        simp
      rw [hall] at hrow
      have hat := ownP_edges hrow
      have hlen : (prs.map (Ku.zp (dbl f))).length = N := by rw [List.length_map]; exact HN.out
      obtain ⟨M, hM⟩ : ∃ M : Nat, M = 2 * n + 1 := ⟨_, rfl⟩
      have hmake := rmake_any (M : Int) (some ⟨g, 0, none⟩) c (prs.map (Ku.zp (dbl f))) wr hat (by omega)
      unfold RMakePost at hmake
      have hmk := HMK.out
      rw [← hM] at hmk
      rw [hmk, hlen] at hmake
      dsimp only at hmake
      have HMAKE := Nu.hid hmake
      have HM := Nu.hid hM
      have wq1 : IntKind.i64.wrap (2 * (n : Int)) = 2 * (n : Int) := wr1 hnb
      have wq2 : IntKind.i64.wrap (2 * (n : Int) + 1) = (M : Int) := wr2 hnb hM
      clear hrow hnm hb hall hat hlen hmake hmk hM hwi hd hi
      go_wp2_with (go_at_call 20; refine HMAKE.out.mono ?_; rintro e w1 ⟨a1, c1, rfl, he1, hb1⟩; refine Hid.out ?_)
      refine Nu.hid ?_
      obtain ⟨E, hE⟩ : ∃ E, es.length = E := ⟨_, rfl⟩
      rw [hE]
      obtain ⟨W1, hW1⟩ : ∃ W1, W1 = w1.alloc (.cells #[.int .i64 (M : Int), .slice a1 E c1] 24) := ⟨_, rfl⟩
      have hbW1 : Below w1.heap.size w1 W1 := by rw [hW1]; exact (Below.refl _ _).alloc (Nat.le_refl _) _
      have g1 : W1.heap[w1.heap.size]? = some (.cells #[.int .i64 (M : Int), .slice a1 E c1] 24 (0, 0)) := by rw [hW1]; exact heap_alloc_new w1 _
      have HE1 := Nu.hid (he1.later hbW1)
      have HBW := Nu.hid ((HB.out.trans (hb1.mono HB.out.size)).trans (hbW1.mono (HB.out.trans (hb1.mono HB.out.size)).size))
      have HG1 := Nu.hid g1
      have HW1 := Nu.hid hW1
      have HEE := Nu.hid hE
      have hrc := precognise_is (M : Int) a1 c1 es W1 HE1.out (by have := HESL.out; omega)
      have hkr := HKR.out
      rw [← HM.out] at hkr
      unfold Ku.KrP at hrc
      rw [hkr, hE] at hrc
      dsimp only at hrc
      obtain ⟨Q, hQ⟩ : ∃ Q, br.length = Q := ⟨_, rfl⟩
      have hL := HPL.out
      rw [hQ, hL] at hrc
      have HRC := Nu.hid hrc
      have HQ := Nu.hid hQ
      obtain ⟨x0, x1, -⟩ := pair_cells g1
      rw [hW1] at x0 x1
      clear he1 hb1 hbW1 g1 hW1 hE hrc hkr hQ hL HMAKE wq1 wq2
      go_wp2_with (go_at_call 13; rw [← HW1.out]; refine HRC.out.mono ?_; rintro e w2 ⟨a3, c3, a4, c4, rfl, hi3, hs3, hb3⟩; refine Hid.out ?_)
      refine Nu.hid ?_
      obtain ⟨W3, hW3⟩ : ∃ W3, W3 = w2.alloc (.cells #[.int .i64 (kd : Int), .slice a3 Q c3, .slice a4 L0 c4] 38) := ⟨_, rfl⟩
      have hbW3 : Below w2.heap.size w2 W3 := by rw [hW3]; exact (Below.refl _ _).alloc (Nat.le_refl _) _
      have g3 : W3.heap[w2.heap.size]? = some (.cells #[.int .i64 (kd : Int), .slice a3 Q c3, .slice a4 L0 c4] 38 (0, 0)) := by rw [hW3]; exact heap_alloc_new w2 _
      have hb13 : Below W1.heap.size W1 W3 := hb3.trans (hbW3.mono hb3.size)
      obtain ⟨x0, x1, -⟩ := pair_cells ((hb13.block _ (lt_of_block HG1.out)).trans HG1.out)
      obtain ⟨k0, k1, k2, -⟩ := cells3_15 g3
      have HB3 := Nu.hid (HBW.out.trans (hb13.mono HBW.out.size))
      have hqq : Q = q := by rw [← HQ.out]; exact HSH.out.brl
      have hsn := shown15_any M kd q L0 E c1 c3 c4 a1 a3 a4 es br ps ts W3 (by rw [HM.out]; exact HVAL.out) HEE.out HPL.out (HE1.out.later hb13) (hi3.later hbW3) (by have := hs3.later hbW3; exact this) (by rw [HM.out]; exact HSH.out)
      rw [hqq] at k1 hW3 ⊢
      have HSN := Nu.hid hsn
      have HW3 := Nu.hid hW3
      rw [hW3] at x0 x1 k0 k1 k2
      have hcs : (((kd : Int) == 2) = false ∧ two = false) ∨ (((kd : Int) == 2) = true ∧ two = true) := by
        rcases HKD.out with ⟨h1, -, h2⟩ | ⟨h1, -, h2⟩
        · exact .inl ⟨by rw [h1]; rfl, h2⟩
        · exact .inr ⟨by rw [h1]; rfl, h2⟩
      clear hi3 hs3 hb3 hbW3 g3 hb13 hqq hsn hW3 HRC HQ
      rcases hcs with ⟨t1, rfl⟩ | ⟨t1, rfl⟩
      all_goals go_wp2_with (go_at_call 19; rw [← HW3.out]; refine HSN.out.mono ?_; rintro e w4 ⟨rfl, hb4⟩; refine Hid.out ?_)
      all_goals refine Nu.hid ?_
      all_goals have HB4 := Nu.hid (HB3.out.trans (hb4.mono HB3.out.size))
      all_goals clear hb4
      all_goals go_wp2
      all_goals go_ret
      all_goals exact ⟨rfl, HB4.out⟩
end
end lawKM
end Go.Proofs.Ytdhaaodalchpkaa

/-
  The law KuraMade: from its names on.
-/
namespace Go.Proofs.Ytdhaaodalchpkaa
open Go.ChangeShapes Go.WideShapes Go.ChangeAt Go.RowKit Go.Sort
namespace lawKM

theorem tm15 (x : Int) {m : Nat} (hm : 0 < m) (hm' : m ≤ 4611686018427387904) : ∃ K : Nat, ((x.tmod (m : Int) = (K : Int) ∧ ¬ (x.tmod (m : Int) < 0)) ∨ (wrap64 (-x.tmod (m : Int)) = (K : Int) ∧ x.tmod (m : Int) < 0)) ∧ K < m := by
  have h1 := Int.tmod_lt_of_pos x (show (0 : Int) < (m : Int) by omega)
  have h2 : -(m : Int) < x.tmod (m : Int) := by
    have := Int.tmod_lt_of_pos (-x) (show (0 : Int) < (m : Int) by omega)
    rw [Int.neg_tmod] at this
    omega
  by_cases h : x.tmod (m : Int) < 0
  · exact ⟨(-(x.tmod (m : Int))).toNat, .inr ⟨by unfold wrap64; omega, h⟩, by omega⟩
  · exact ⟨(x.tmod (m : Int)).toNat, .inl ⟨by omega, h⟩, by omega⟩
/-- The first i are named by themselves. -/
def idN (n i : Nat) : List Int := (List.range n).map fun v => if v < i then (v : Int) else 0
theorem idN_zero (n : Nat) : idN n 0 = List.replicate n 0 := by
  unfold idN
  refine List.ext_getElem? fun j => ?_
  rw [List.getElem?_map, List.getElem?_replicate]
  by_cases h : j < n
  · rw [List.getElem?_range h, if_pos h]
    simp
  · rw [List.getElem?_eq_none (by simp; omega), if_neg h]
    rfl
theorem idN_len (n i : Nat) : (idN n i).length = n := by simp [idN]
theorem idN_set {n i : Nat} (_ : i < n) : (idN n i).set i (i : Int) = idN n (i + 1) := by
  refine List.ext_getElem? fun j => ?_
  rw [List.getElem?_set, idN_len]
  unfold idN
  by_cases e : i = j
  · subst e
    rename_i hi
    rw [if_pos rfl, if_pos hi, List.getElem?_map, List.getElem?_range hi]
    simp
  · rw [if_neg e, List.getElem?_map, List.getElem?_map]
    by_cases hj : j < n
    · rw [List.getElem?_range hj]
      simp only [Option.map_some, Option.some.injEq]
      by_cases h1 : j < i
      · rw [if_pos h1, if_pos (by omega)]
      · rw [if_neg h1, if_neg (by omega)]
    · rw [List.getElem?_eq_none (by simp; omega)]
      rfl
theorem idN_all (n : Nat) : idN n n = (List.range n).map fun v => ((id v : Nat) : Int) := by
  unfold idN
  refine List.map_congr_left fun v hv => ?_
  rw [if_pos (List.mem_range.1 hv)]
  rfl
/-- Two names exchanged. -/
def swp (f : Nat → Nat) (J K : Nat) (v : Nat) : Nat := if v = K then f J else if v = J then f K else f v
theorem swp_inj {f : Nat → Nat} {n J K : Nat} (hJ : J < n) (hK : K < n) (h : ∀ a b, a < n → b < n → f a = f b → a = b) : ∀ a b, a < n → b < n → swp f J K a = swp f J K b → a = b := fun a b ha hb e => by
  have key : ∀ c, c < n → ∃ c', c' < n ∧ swp f J K c = f c' ∧ ((c = K ∧ c' = J) ∨ (c ≠ K ∧ c = J ∧ c' = K) ∨ (c ≠ K ∧ c ≠ J ∧ c' = c)) := fun c hc => by
    unfold swp
    by_cases h1 : c = K
    · exact ⟨J, hJ, by rw [if_pos h1], .inl ⟨h1, rfl⟩⟩
    · by_cases h2 : c = J
      · exact ⟨K, hK, by rw [if_neg h1, if_pos h2], .inr (.inl ⟨h1, h2, rfl⟩)⟩
      · exact ⟨c, hc, by rw [if_neg h1, if_neg h2], .inr (.inr ⟨h1, h2, rfl⟩)⟩
  obtain ⟨a', ha', ea, ca⟩ := key a ha
  obtain ⟨b', hb', eb, cb⟩ := key b hb
  have := h a' b' ha' hb' (by rw [← ea, ← eb, e])
  omega
theorem swp_lt {f : Nat → Nat} {n J K : Nat} (hJ : J < n) (hK : K < n) (h : ∀ a, a < n → f a < n) : ∀ a, a < n → swp f J K a < n := fun a ha => by
  unfold swp
  split
  · exact h J hJ
  · split
    · exact h K hK
    · exact h a ha
theorem swp_list {f : Nat → Nat} {n J K : Nat} (hJ : J < n) (hK : K < n) : (((List.range n).map fun v => (f v : Int)).set J (f K : Int)).set K (f J : Int) = (List.range n).map fun v => (swp f J K v : Int) := by
  refine List.ext_getElem? fun j => ?_
  rw [List.getElem?_set, List.getElem?_set]
  simp only [List.length_set, List.length_map, List.length_range, List.getElem?_map]
  by_cases h1 : K = j
  · subst h1
    rw [if_pos rfl, if_pos hK, List.getElem?_range hK]
    simp [swp]
  · rw [if_neg h1]
    by_cases h2 : J = j
    · subst h2
      rw [if_pos rfl, if_pos hJ, List.getElem?_range hJ]
      have : ¬ J = K := fun e => h1 e.symm
      simp [swp, this]
    · rw [if_neg h2]
      by_cases hj : j < n
      · rw [List.getElem?_range hj]
        have e1 : ¬ j = K := fun e => h1 e.symm
        have e2 : ¬ j = J := fun e => h2 e.symm
        simp [swp, e1, e2]
      · rw [List.getElem?_eq_none (by simp; omega)]
        rfl

section
variable {two : Bool} {kd q n N L0 g c B ol oc : Nat} {oo : Option Addr} {z2 : List Int} {prs : List (Nat × Nat)} {P : List (List Nat)} {w V : World}

set_option maxRecDepth 100000 in
set_option maxHeartbeats 32000000 in
theorem made_names {t1 t3 t4 t5 t6 t9 t10 t12 t13 t14 t15 t16 t17 t18 t19 t20 t21 t22 t23 t24 t25 t26 t27 t28 t29 t30 t31 t32 t33 t34 t35 t36 t37 t38 t39 t40 t41 t42 t43 t44 t45 t46 t47 t48 t49 t50 t51 t52 t53 t54 t55 t56 t57 t58 t59 t60 t61 t62 t63 t64 t65 t66 t67 t68 t69 t70 t71 t72 t73 t74 t75 t76 t77 t78 t79 t80 t81 t82 t83 t84 t85 t86 t87 t88 t89 t90 t91 t92 t93 t94 t95 t96 t97 t98 t99 t100 t101 t102 t103 t104 t105 t106 t107 t108 t109 t110 t111 t112 t113 t114 t115 t116 t117 t118 t119 t120 t121 t122 t123 t124 t125 t126 t127 t128 t129 t130 t131 t132 t133 t134 t135 t136 t137 t138 t139 t140 t141 t142 t143 t144 t145 t146 t147 t148 t149 t150 t151 t152 t153 t154 t155 t156 t157 t158 t159 t160 t161 t162 t163 t164 t165 t166 t167 t168 t169 t170 t171 t172 t173 t174 t175 t176 t177 t178 t179 t180 t181 t182 t183 t184 t185 t186 t187 t188 t189 t190 t191 t192 t193 t194 t195 t196 t197 t198 t199 t200 t201 t202 t203 t204 t205 t206 t207 t208 : Value} (hk : (kd = 1 ∧ q = 5 ∧ two = false) ∨ (kd = 2 ∧ q = 6 ∧ two = true)) (hD : Ku.Div q n (Ku.out kd q q) prs P) (hN : prs.length = N) (hN0 : 0 < N) (hNb : N ≤ 70) (hqn : q ≤ n) (hnb : n ≤ 66)
    (hp : OwnP V B (.slice (some ⟨g, 0, none⟩) N c) (prs.map zi)) (hB : w.heap.size ≤ B) (hr2 : IsRow .i64 8 w oo ol oc z2) (hb : Below w.heap.size w V) (hL0 : (Ku.out kd q q).length = L0) :
    Code.wp Try.prog (Ku.spine15 8 (Try.f7.body.getD .skip)) (bodyPost Try.prog Try.f7 fun e w' => e = .returned (.bool true) ∧ Below w.heap.size w w') { tmps := #[.bool two, t1, .slice oo ol oc, t3, t4, t5, t6, .slice (some ⟨g, 0, none⟩) N c, .int .i64 (n : Int), t9, t10, .int .i64 (L0 : Int), t12, t13, t14, t15, t16, t17, t18, t19, t20, t21, t22, t23, t24, t25, t26, t27, t28, t29, t30, t31, t32, t33, t34, t35, t36, t37, t38, t39, t40, t41, t42, t43, t44, t45, t46, t47, t48, t49, t50, t51, t52, t53, t54, t55, t56, t57, t58, t59, t60, t61, t62, t63, t64, t65, t66, t67, t68, t69, t70, t71, t72, t73, t74, t75, t76, t77, t78, t79, t80, t81, t82, t83, t84, t85, t86, t87, t88, t89, t90, t91, t92, t93, t94, t95, t96, t97, t98, t99, t100, t101, t102, t103, t104, t105, t106, t107, t108, t109, t110, t111, t112, t113, t114, t115, t116, t117, t118, t119, t120, t121, t122, t123, t124, t125, t126, t127, t128, t129, t130, t131, t132, t133, t134, t135, t136, t137, t138, t139, t140, t141, t142, t143, t144, t145, t146, t147, t148, t149, t150, t151, t152, t153, t154, t155, t156, t157, t158, t159, t160, t161, t162, t163, t164, t165, t166, t167, t168, t169, t170, t171, t172, t173, t174, t175, t176, t177, t178, t179, t180, t181, t182, t183, t184, t185, t186, t187, t188, t189, t190, t191, t192, t193, t194, t195, t196, t197, t198, t199, t200, t201, t202, t203, t204, t205, t206, t207, t208], defers := [] } V := by
  obtain ⟨i0, hi, hz0, hz1, hz2⟩ := info_parts Try.infoNum
  have hgV := World.ownsRow.lt hp g rfl
  have hn0 : 0 < n := by rcases hk with h | h <;> omega
  have hol := hr2.small
  have HD := Nu.hid hD
  have HN := Nu.hid hN
  have HL0 := Nu.hid hL0
  have HKD := Nu.hid hk
  have HB0 := Nu.hid hb
  have HP0 := Nu.hid hp
  have HR2 := Nu.hid hr2
  have hwV := hb.size
  clear hD hN hp hL0 hk hb hr2
  simp only [Try.f7, Option.getD, Ku.spine15]
  have hmk : ∀ W, (Instr.makeSlice 36 (.int .i64 (n : Int)) (.int .i64 (n : Int))).run Try.prog W = .ok (.slice (some ⟨W.heap.size, 0, none⟩) n n) (W.alloc (.cells (madeCells #[.int .i64 0] n) 3)) := fun W => by
    have := run_make (P := Try.prog) W 36 3 i0 (.int .i64 0) Try.underlying36 hi hz0 .i64 .i64 (n : Int) (n : Int) (by omega) (Int.le_refl _) (by rw [hz2]; omega) (by omega)
    rw [this, hz1]
    simp [Value.cells]
  go_wp2
  clear hmk
  obtain ⟨W, hW⟩ : ∃ W, W = V.alloc (.cells (madeCells #[.int .i64 0] n) 3) := ⟨_, rfl⟩
  have hI := made_in (M := n) (W := V) rfl
  rw [← idN_zero, ← hW] at hI
  have hbW : Below V.heap.size V W := by rw [hW]; exact (Below.refl _ _).alloc (Nat.le_refl _) _
  rw [← hW]
  have HI := Nu.hid hI
  have HBW := Nu.hid (HB0.out.trans (hbW.mono HB0.out.size))
  have HPW : Hid (OwnP W B (.slice (some ⟨g, 0, none⟩) N c) (prs.map zi)) := HP0.out.later hbW
  clear hI hbW hW
  go_loopw [99] (fun cv wr => ∃ i : Nat, i ≤ n ∧ cv = .int .i64 (i : Int) ∧ IntsIn wr V.heap.size (idN n i) ∧ OwnP wr B (.slice (some ⟨g, 0, none⟩) N c) (prs.map zi) ∧ Below w.heap.size w wr) (fun cv _ => n - (intOf cv).toNat)
  case atStart => exact ⟨0, Nat.zero_le _, rfl, HI.out, HPW.out, HBW.out⟩
  case round =>
    obtain ⟨i, hin, rfl, hI, hrow, hb⟩ := hrel
    have HI1 := Nu.hid hI
    have HROW := Nu.hid hrow
    have HB := Nu.hid hb
    by_cases hlt : i < n
    · have hlti : (i : Int) < (n : Int) := by omega
      have hi0 : (0 : Int) ≤ (i : Int) := by omega
      have hwi : IntKind.i64.wrap ((i : Int) + 1) = (i : Int) + 1 := by rw [IntKind.wrap_i64]; omega
      have hil : i < (idN n i).length := by rw [idN_len]; exact hlt
      obtain ⟨y0, c0⟩ : ∃ y, wr.cell? ⟨V.heap.size, i, none⟩ = some (.int .i64 y) := ⟨_, hI.cell (List.getElem?_eq_getElem hil)⟩
      have f0 := hI.free i
      have h1 := hI.set hil (i : Int)
      rw [idN_set hlt] at h1
      have HI2 := Nu.hid h1
      have HB2 := Nu.hid (hb.setCell (p := ⟨V.heap.size, i, none⟩) hwV (.int .i64 (i : Int)))
      have HROW2 : Hid (OwnP (wr.setCell ⟨V.heap.size, i, none⟩ (.int .i64 (i : Int))) B (.slice (some ⟨g, 0, none⟩) N c) (prs.map zi)) := row_same hrow fun b hb' _ _ => heap_setCell_other wr ⟨V.heap.size, i, none⟩ b _ (fun e => by
        have e2 : g = b := by simpa [Value.ownBlock] using hb'
        have e3 : b = V.heap.size := e
        omega)
      clear hI hrow hb h1 hil
      go_wp2
      go_roundw
      case rel => exact ⟨i + 1, by omega, by go_num, HI2.out, HROW2.out, HB2.out⟩
      case measure => simp [intOf]; omega
    · have hin' : i = n := by omega
      rw [hin', idN_all] at hI
      have HI3 := Nu.hid hI
      have hd : ¬ (i : Int) < (n : Int) := by omega
      clear hI hrow hb hin'
      go_wp2
      clear hd
      go_loopw [16, 17] (fun cv kv wx => ∃ (i : Nat) (f : Nat → Nat), i ≤ ol ∧ cv = .int .i64 (i : Int) ∧ (∀ a b, a < n → b < n → f a = f b → a = b) ∧ (∀ a, a < n → f a < n) ∧ IntsIn wx V.heap.size ((List.range n).map fun v => (f v : Int)) ∧ OwnP wx B (.slice (some ⟨g, 0, none⟩) N c) (prs.map zi) ∧ Below w.heap.size w wx) (fun cv _ _ => ol - (intOf cv).toNat)
      case atStart => exact ⟨0, id, Nat.zero_le _, rfl, fun a b _ _ e => e, fun a h => h, HI3.out, HROW.out, HB.out⟩
      case round =>
        obtain ⟨j, f, hj, rfl, hinj, hflt, hI, hrow, hb⟩ := hrel
        have HINJ := Nu.hid hinj
        have HFLT := Nu.hid hflt
        have HIX := Nu.hid hI
        have HROX := Nu.hid hrow
        have HBX := Nu.hid hb
        by_cases hlt2 : j < ol
        · have hlti : (j : Int) < (ol : Int) := by omega
          have hj0 : (0 : Int) ≤ (j : Int) := by omega
          have hni : (0 : Int) < (n : Int) := by omega
          have hnne : (n : Int) ≠ 0 := by omega
          obtain ⟨b, o, rfl, c0, hx1, hx2⟩ := (HR2.out.later hb).int_at hlt2
          generalize z2.getD j 0 = x at c0 hx1 hx2
          obtain ⟨J, hJ, hJl⟩ : ∃ J : Nat, (j : Int).tmod (n : Int) = (J : Int) ∧ J < n := ⟨j % n, by rw [Int.tmod_eq_emod_of_nonneg (by omega)]; simp, Nat.mod_lt _ hn0⟩
          obtain ⟨K, hK, hKl⟩ := tm15 x hn0 (show n ≤ 4611686018427387904 by omega)
          have hJ0 : (0 : Int) ≤ (J : Int) := by omega
          have hK0 : (0 : Int) ≤ (K : Int) := by omega
          have hJi : (J : Int) < (n : Int) := by omega
          have hKi : (K : Int) < (n : Int) := by omega
          have e1 : wr.cell? ⟨V.heap.size, J, none⟩ = some (.int .i64 (f J : Int)) := hI.cell (by rw [List.getElem?_map, List.getElem?_range hJl]; rfl)
          have e2 : wr.cell? ⟨V.heap.size, K, none⟩ = some (.int .i64 (f K : Int)) := hI.cell (by rw [List.getElem?_map, List.getElem?_range hKl]; rfl)
          have f1 := hI.free J
          have hI2 := hI.set (i := J) (by simp; exact hJl) (f K : Int)
          have hKlen : K < (((List.range n).map fun v => (f v : Int)).set J (f K : Int)).length := by simp; exact hKl
          have e3 := hI2.cell (List.getElem?_eq_getElem hKlen)
          have f2 := hI2.free K
          have hI3 := hI2.set hKlen (f J : Int)
          rw [swp_list hJl hKl] at hI3
          generalize (((List.range n).map fun v => (f v : Int)).set J (f K : Int))[K] = y at e3
          have HI5 := Nu.hid hI3
          have HB5 := Nu.hid ((hb.setCell (p := ⟨V.heap.size, J, none⟩) hwV (.int .i64 (f K : Int))).setCell (p := ⟨V.heap.size, K, none⟩) hwV (.int .i64 (f J : Int)))
          have HROW5 : Hid (OwnP ((wr.setCell ⟨V.heap.size, J, none⟩ (.int .i64 (f K : Int))).setCell ⟨V.heap.size, K, none⟩ (.int .i64 (f J : Int))) B (.slice (some ⟨g, 0, none⟩) N c) (prs.map zi)) := row_same hrow fun b hb' _ _ => by
            have e2 : g = b := by simpa [Value.ownBlock] using hb'
            have e3 : b ≠ V.heap.size := by omega
            rw [heap_setCell_other _ ⟨V.heap.size, K, none⟩ b _ e3, heap_setCell_other _ ⟨V.heap.size, J, none⟩ b _ e3]
          have hwj : IntKind.i64.wrap ((j : Int) + 1) = (j : Int) + 1 := by rw [IntKind.wrap_i64]; omega
          clear hI hrow hb hI2 hI3 hKlen hinj hflt
          rcases hK with ⟨hK1, hK2⟩ | ⟨hK1, hK2⟩
          all_goals go_wp2_with fail
          all_goals try rw [hK1]
          all_goals try rw [hJ]
          all_goals go_big_region
          all_goals clear c0 e1 e2 e3 f1 f2 hK1 hK2 hJ
          all_goals go_wp2
          all_goals go_roundw
          case rel | rel => exact ⟨j + 1, swp f J K, by omega, by go_num, swp_inj hJl hKl HINJ.out, swp_lt hJl hKl HFLT.out, HI5.out.drew, HROW5.out, HB5.out.drew⟩
          case measure | measure => simp [intOf]; omega
        · have hd2 : ¬ (j : Int) < (ol : Int) := by omega
          have hgg : V.heap.size ≠ g := by omega
          clear hI hrow hb hinj hflt
          repeat (first | exact made_tail HKD.out HD.out HN.out hN0 hNb hqn hnb HINJ.out HFLT.out HROX.out hB HIX.out hgg HBX.out HL0.out | go_step)
end
end lawKM
end Go.Proofs.Ytdhaaodalchpkaa

/-
  The law KuraMade: from its divided edges on.
-/
namespace Go.Proofs.Ytdhaaodalchpkaa
open Go.ChangeShapes Go.WideShapes Go.ChangeAt Go.RowKit Go.Sort
namespace lawKM

theorem ownP_put1 {w : World} {B g k c : Nat} {q : List (Int × Int)} (h : OwnP w B (.slice (some ⟨g, 0, none⟩) k c) q) {i : Nat} {p : Int × Int} (hp : q[i]? = some p) (y : Int) :
    OwnP (w.setCell ⟨g, i * 2 + 1, none⟩ (.int .i64 y)) B (.slice (some ⟨g, 0, none⟩) k c) (q.set i (p.1, y)) ∧ w.frozen? ⟨g, i * 2 + 1, none⟩ = false := by
  have hk := ownP_len h
  subst hk
  have h' : w.ownsRow B 50 2 (.slice (some ⟨g, 0, none⟩) q.length c) q.length (flatE q) := h
  obtain ⟨s1, _⟩ := h'.stored (i * 2 + 1) (.int .i64 y)
  refine ⟨?_, h'.frozenAt _⟩
  have e : (flatE q).set (i * 2) (.int .i64 p.1) = flatE q := by
    refine List.ext_getElem? fun j => ?_
    rw [List.getElem?_set]
    by_cases e : i * 2 = j
    · subst e
      have h1 := (flatE_at q i p hp).1
      rw [if_pos rfl, if_pos (List.getElem?_eq_some_iff.1 h1).1, h1]
    · rw [if_neg e]
  unfold OwnP
  rw [List.length_set, flatE_set16, e]
  exact s1

theorem ownP_shape {w : World} {B : Nat} {v : Value} {ps : List (Int × Int)} (h : OwnP w B v ps) {M : Nat} (hl : ps.length = M) (h0 : 0 < M) : ∃ g c, v = .slice (some ⟨g, 0, none⟩) M c ∧ B ≤ g := by
  rcases h.2 with ⟨_, h1⟩ | ⟨g, cap, cur, e, hg, _⟩
  · omega
  · exact ⟨g, cap, by rw [e, hl], hg⟩
theorem put_list {prs : List (Nat × Nat)} {K ea eb n : Nat} : (prs.map zi ++ [((n : Int), (eb : Int))]).set K ((ea : Int), (n : Int)) = ((prs ++ [(n, eb)]).set K (ea, n)).map zi := by
  rw [List.map_set, List.map_append]
  rfl

section
variable {two : Bool} {kd q L0 g c B dl dc ol oc : Nat} {dv oo : Option Addr} {z1 z2 : List Int} {prs : List (Nat × Nat)} {P : List (List Nat)} {w V : World}

set_option maxRecDepth 100000 in
set_option maxHeartbeats 32000000 in
theorem made_rest {t3 t4 t5 t6 t9 t10 t11 t12 t13 t14 t15 t16 t17 t18 t19 t20 t21 t22 t23 t24 t25 t26 t27 t28 t29 t30 t31 t32 t33 t34 t35 t36 t37 t38 t39 t40 t41 t42 t43 t44 t45 t46 t47 t48 t49 t50 t51 t52 t53 t54 t55 t56 t57 t58 t59 t60 t61 t62 t63 t64 t65 t66 t67 t68 t69 t70 t71 t72 t73 t74 t75 t76 t77 t78 t79 t80 t81 t82 t83 t84 t85 t86 t87 t88 t89 t90 t91 t92 t93 t94 t95 t96 t97 t98 t99 t100 t101 t102 t103 t104 t105 t106 t107 t108 t109 t110 t111 t112 t113 t114 t115 t116 t117 t118 t119 t120 t121 t122 t123 t124 t125 t126 t127 t128 t129 t130 t131 t132 t133 t134 t135 t136 t137 t138 t139 t140 t141 t142 t143 t144 t145 t146 t147 t148 t149 t150 t151 t152 t153 t154 t155 t156 t157 t158 t159 t160 t161 t162 t163 t164 t165 t166 t167 t168 t169 t170 t171 t172 t173 t174 t175 t176 t177 t178 t179 t180 t181 t182 t183 t184 t185 t186 t187 t188 t189 t190 t191 t192 t193 t194 t195 t196 t197 t198 t199 t200 t201 t202 t203 t204 t205 t206 t207 t208 : Value} (hk : (kd = 1 ∧ q = 5 ∧ two = false) ∨ (kd = 2 ∧ q = 6 ∧ two = true)) (hD : Ku.Div q q (Ku.out kd q q) prs P) (hN : prs.length = L0)
    (hp : OwnP V B (.slice (some ⟨g, 0, none⟩) L0 c) (prs.map zi)) (hB : w.heap.size ≤ B) (hr1 : IsRow .i64 8 w dv dl dc z1) (hr2 : IsRow .i64 8 w oo ol oc z2) (hb : Below w.heap.size w V) (hL0 : (Ku.out kd q q).length = L0) :
    Code.wp Try.prog (Ku.spine15 6 (Try.f7.body.getD .skip)) (bodyPost Try.prog Try.f7 fun e w' => e = .returned (.bool true) ∧ Below w.heap.size w w') { tmps := #[.bool two, .slice dv dl dc, .slice oo ol oc, t3, t4, t5, t6, .slice (some ⟨g, 0, none⟩) L0 c, .int .i64 (q : Int), t9, t10, t11, t12, t13, t14, t15, t16, t17, t18, t19, t20, t21, t22, t23, t24, t25, t26, t27, t28, t29, t30, t31, t32, t33, t34, t35, t36, t37, t38, t39, t40, t41, t42, t43, t44, t45, t46, t47, t48, t49, t50, t51, t52, t53, t54, t55, t56, t57, t58, t59, t60, t61, t62, t63, t64, t65, t66, t67, t68, t69, t70, t71, t72, t73, t74, t75, t76, t77, t78, t79, t80, t81, t82, t83, t84, t85, t86, t87, t88, t89, t90, t91, t92, t93, t94, t95, t96, t97, t98, t99, t100, t101, t102, t103, t104, t105, t106, t107, t108, t109, t110, t111, t112, t113, t114, t115, t116, t117, t118, t119, t120, t121, t122, t123, t124, t125, t126, t127, t128, t129, t130, t131, t132, t133, t134, t135, t136, t137, t138, t139, t140, t141, t142, t143, t144, t145, t146, t147, t148, t149, t150, t151, t152, t153, t154, t155, t156, t157, t158, t159, t160, t161, t162, t163, t164, t165, t166, t167, t168, t169, t170, t171, t172, t173, t174, t175, t176, t177, t178, t179, t180, t181, t182, t183, t184, t185, t186, t187, t188, t189, t190, t191, t192, t193, t194, t195, t196, t197, t198, t199, t200, t201, t202, t203, t204, t205, t206, t207, t208], defers := [] } V := by
  have hL0b : 9 ≤ L0 ∧ L0 ≤ 10 := by
    rcases hk with ⟨rfl, rfl, -⟩ | ⟨rfl, rfl, -⟩ <;> rw [← hL0] <;> decide
  have hqb : 5 ≤ q ∧ q ≤ 6 := by rcases hk with h | h <;> omega
  have hdl := hr1.small
  have HD0 := Nu.hid hD
  have HN0 := Nu.hid hN
  have HL0 := Nu.hid hL0
  have HKD := Nu.hid hk
  have HB0 := Nu.hid hb
  have HP0 := Nu.hid hp
  have HR1 := Nu.hid hr1
  have HR2 := Nu.hid hr2
  clear hD hN hp hL0 hk hb hr1 hr2
  simp only [Try.f7, Option.getD, Ku.spine15]
  go_wp2
  go_loopw [7, 8, 12, 13] (fun v7 v8 v12 v13 wr => ∃ (i n M g c : Nat) (prs : List (Nat × Nat)) (P : List (List Nat)), i ≤ dl ∧ i ≤ 60 ∧ v12 = .int .i64 (i : Int) ∧ v8 = .int .i64 (n : Int) ∧ n = q + i ∧ M = L0 + i ∧ v7 = .slice (some ⟨g, 0, none⟩) M c ∧ prs.length = M ∧ Ku.Div q n (Ku.out kd q q) prs P ∧ OwnP wr B (.slice (some ⟨g, 0, none⟩) M c) (prs.map zi) ∧ Below w.heap.size w wr) (fun _ _ v12 _ _ => dl - (intOf v12).toNat)
  case atStart => exact ⟨0, q, L0, g, c, prs, P, Nat.zero_le _, Nat.zero_le _, rfl, rfl, rfl, rfl, rfl, HN0.out, HD0.out, HP0.out, HB0.out⟩
  case round =>
    obtain ⟨i, n, M, g, c, prs, P, hid, hi6, rfl, rfl, hn, hM, rfl, hN, hD, hrow, hb⟩ := hrel
    have HD := Nu.hid hD
    have HN := Nu.hid hN
    have HROW := Nu.hid hrow
    have HB := Nu.hid hb
    have hMb : 0 < M ∧ M ≤ 70 := by omega
    have hnb : q ≤ n ∧ n ≤ 66 := by omega
    have HM := Nu.hid hM
    have HNQ := Nu.hid hn
    have hBw : B ≤ wr.heap.size := by
      have := World.ownsRow.lt hrow g rfl
      omega
    clear hn hM
    by_cases hlt : i < dl
    · have hlti : (i : Int) < (dl : Int) := by omega
      have hi0 : (0 : Int) ≤ (i : Int) := by omega
      by_cases h60 : i < 60
      · have h60i : (i : Int) < 60 := by omega
        have hMi : (0 : Int) < (M : Int) := by omega
        have hMne : (M : Int) ≠ 0 := by omega
        obtain ⟨b, o, rfl, c0, hx1, hx2⟩ := (HR1.out.later hb).int_at hlt
        generalize z1.getD i 0 = x at c0 hx1 hx2
        obtain ⟨K, hK, hKl⟩ := tm15 x hMb.1 (show M ≤ 4611686018427387904 by omega)
        have hK0 : (0 : Int) ≤ (K : Int) := by omega
        have hKi : (K : Int) < (M : Int) := by omega
        have hKi2 : (K : Int) < (M : Int) + 1 := by omega
        obtain ⟨⟨ea, eb⟩, hp⟩ : ∃ p, prs[K]? = some p := ⟨_, List.getElem?_eq_getElem (by omega)⟩
        obtain ⟨d0, d1⟩ := ownP_at hrow (i := K) (p := zi (ea, eb)) (by rw [List.getElem?_map, hp]; rfl)
        unfold zi at d0 d1
        dsimp only at d0 d1
        have HPK := Nu.hid hp
        have hwi : IntKind.i64.wrap ((i : Int) + 1) = (i : Int) + 1 := by rw [IntKind.wrap_i64]; omega
        have hwn : IntKind.i64.wrap ((n : Int) + 1) = (n : Int) + 1 := by rw [IntKind.wrap_i64]; omega
        have hll : (prs.map zi).length ≤ 8796093022000 := by rw [List.length_map]; omega
        clear hrow hb hD hN hp
        rcases hK with ⟨hK1, hK2⟩ | ⟨hK1, hK2⟩
        all_goals go_wp2_with (at_builtin; (try rw [hK1]); refine wpList_pushP rfl _ _ rfl _ B _ _ (n : Int) (eb : Int) HROW.out hBw hll rfl rfl ?_; refine Hid.out ?_)
        all_goals refine Nu.hid ?_
        all_goals intro v' w1 ho1 hb1
        all_goals
          obtain ⟨M1, hM1⟩ : ∃ M1, M1 = M + 1 := ⟨_, rfl⟩
          obtain ⟨g1, c1, rfl, hg1⟩ := ownP_shape ho1 (M := M1) (by rw [List.length_append, List.length_map, HN.out, hM1]; rfl) (by omega)
          have hK1i : (K : Int) < (M1 : Int) := by omega
          have hat1 : (prs.map zi ++ [((n : Int), (eb : Int))])[K]? = some ((ea : Int), (eb : Int)) := by
            rw [List.getElem?_append_left (by rw [List.length_map, HN.out]; exact hKl), List.getElem?_map, HPK.out]
            rfl
          obtain ⟨d2, d3⟩ := ownP_at ho1 hat1
          obtain ⟨q1, q2⟩ := ownP_put1 ho1 hat1 (n : Int)
          rw [put_list] at q1
          have HQ1 := Nu.hid q1
          have HB1 := Nu.hid ((HB.out.trans (hb1.mono hB)).setCell (p := ⟨g1, K * 2 + 1, none⟩) (show w.heap.size ≤ g1 by omega) (.int .i64 (n : Int)))
          obtain ⟨P', hD'⟩ := HD.out.step hnb.1 HPK.out
          have HD' := Nu.hid hD'
          have HM1 := Nu.hid hM1
          have HLN : Hid (((prs ++ [(n, eb)]).set K (ea, n)).length = M1) := by
            show _ = _
            rw [List.length_set, List.length_append, HN.out, hM1]
            rfl
          clear ho1 hb1 hat1 q1 hD' hM1 hK1 hK2 d0 d1 c0
          go_wp2
          go_roundw
        case rel | rel =>
          exact ⟨i + 1, n + 1, M1, g1, c1, _, P', by omega, by omega, by go_num, by go_num, by have := HNQ.out; omega, by have := HM.out; have := HM1.out; omega, rfl, HLN.out, HD'.out, HQ1.out, HB1.out⟩
        case measure | measure => simp [intOf]; omega
      · have h60i : ¬ (i : Int) < 60 := by omega
        clear hrow hb hD hN
        repeat (first | exact made_names HKD.out HD.out HN.out hMb.1 hMb.2 hnb.1 hnb.2 HROW.out hB HR2.out HB.out HL0.out | go_step)
    · have hd : ¬ (i : Int) < (dl : Int) := by omega
      clear hrow hb hD hN
      repeat (first | exact made_names HKD.out HD.out HN.out hMb.1 hMb.2 hnb.1 hnb.2 HROW.out hB HR2.out HB.out HL0.out | go_step)
end
end lawKM
end Go.Proofs.Ytdhaaodalchpkaa
