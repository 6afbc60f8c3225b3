/-
  The document's Recognise of layer 15: from the choice of the kind on.
-/
import Derived.Test.YtdhaaodalchpkaaKuR
import Derived.Test.YtdhaaodalchpkaaMgC
import Derived.Deep.Upon
namespace Go.Proofs.Ytdhaaodalchpkaa
open Go.RowKit Go.Sort

namespace Ku
/-- What is left of a code behind its first n statements. -/
def spine15 : Nat → Code → Code
  | 0, c => c
  | n + 1, .seq _ d => spine15 n d
  | _ + 1, c => c

/-- The loop's memory: the answer so far in block kb, the paths ps written. -/
structure KL (B0 kb rb : Nat) (kd : Int) (bv : Value) (R : List (List Int)) (br : List Int) (V : World) (ps : List (Nat × Nat)) (pv : Value) (vs : List Value) (W : World) : Prop where
  low : Wrote (fun b => b = kb) V W
  box : W.heap[kb]? = some (.cells #[.int .i64 kd, bv, pv] 38 (0, 0))
  own : W.ownsRow V.heap.size 36 1 pv ps.length vs
  len : vs.length = ps.length
  sees : ∀ (u : Nat) (x : Value) (p : Nat × Nat), vs[u]? = some x → ps[u]? = some p → SeesI W x (way R br p).1
  far : ∀ (u : Nat) (x : Value) (b : Nat), vs[u]? = some x → x.ownBlock = some b → b ≠ kb ∧ b ≠ rb ∧ pv.ownBlock ≠ some b ∧ b < W.heap.size ∧ B0 ≤ b
  one : ∀ p ∈ ps, (way R br p).2 = 1
section
variable {B0 kb rb : Nat} {kd : Int} {bv : Value} {R : List (List Int)} {br : List Int} {V : World} {ps : List (Nat × Nat)} {pv : Value} {vs : List Value} {W : World}
theorem KL.lt (h : KL B0 kb rb kd bv R br V ps pv vs W) : kb < W.heap.size := (Array.getElem?_eq_some_iff.1 h.box).1
theorem KL.later {W' : World} (h : KL B0 kb rb kd bv R br V ps pv vs W) (hb : Below W.heap.size W W') : KL B0 kb rb kd bv R br V ps pv vs W' := by
  refine ⟨h.low.later hb, blk_later15 h.box hb, row_same h.own (fun g _ _ hg => hb.block g hg), h.len, fun u x p hx hp => (h.sees u x p hx hp).later hb, fun u x b hx hb' => ?_, h.one⟩
  obtain ⟨a1, a2, a3, a4, a5⟩ := h.far u x b hx hb'
  exact ⟨a1, a2, a3, Nat.lt_of_lt_of_le a4 hb.size, a5⟩
theorem KL.push {W3 : World} {ob : Obj} {x pv' : Value} {p : Nat × Nat} (hkV : kb < V.heap.size) (h : KL B0 kb rb kd bv R br V ps pv vs W) (hx : SeesI W x (way R br p).1) (hone : (way R br p).2 = 1) (hxb : ∀ b, x.ownBlock = some b → b ≠ kb ∧ b ≠ rb ∧ pv.ownBlock ≠ some b ∧ b < W.heap.size ∧ B0 ≤ b)
    (ho : W3.ownsRow V.heap.size 36 1 pv' (ps.length + 1) (vs ++ [x])) (hg : (W.alloc ob).grownBy W3 pv.ownBlock) (hat : pv'.ownBlock = pv.ownBlock ∨ pv'.ownBlock = some (W.heap.size + 1)) :
    (W3.cell? ⟨kb, 2, none⟩ = some pv ∧ W3.frozen? ⟨kb, 2, none⟩ = false) ∧ KL B0 kb rb kd bv R br V (ps ++ [p]) pv' (vs ++ [x]) (W3.setCell ⟨kb, 2, none⟩ pv') := by
  have hk := h.lt
  have hVW := h.low.size
  have hpo : ∀ b, pv.ownBlock = some b → V.heap.size ≤ b := fun b hb => (World.ownsRow.lt h.own b hb).1
  have keep : ∀ b, b < W.heap.size → pv.ownBlock ≠ some b → W3.heap[b]? = W.heap[b]? := fun b hb hne => by
    rw [hg.block b (by simp; omega) (fun e => hne e.symm)]
    exact heap_alloc_old W ob hb
  have hbox3 : W3.heap[kb]? = some (.cells #[.int .i64 kd, bv, pv] 38 (0, 0)) := (keep kb hk (fun e => by have := hpo kb e; omega)).trans h.box
  obtain ⟨_, _, c2, cf⟩ := cells3_15 hbox3
  have hsz : W.heap.size ≤ W3.heap.size := by have := hg.size; simp at this; omega
  have hszS : (W3.setCell ⟨kb, 2, none⟩ pv').heap.size = W3.heap.size := by simp
  have oth : ∀ b, b ≠ kb → (W3.setCell ⟨kb, 2, none⟩ pv').heap[b]? = W3.heap[b]? := fun b hb => heap_setCell_other _ ⟨kb, 2, none⟩ b _ hb
  have hall : ∀ (u : Nat) (y : Value), (vs ++ [x])[u]? = some y → (∃ u', vs[u']? = some y ∧ u' = u ∧ u < ps.length) ∨ (y = x ∧ u = ps.length) := fun u y hy => by
    by_cases hu : u < vs.length
    · rw [List.getElem?_append_left hu] at hy
      exact .inl ⟨u, hy, rfl, by rw [← h.len]; exact hu⟩
    · rw [List.getElem?_append_right (by omega)] at hy
      have : u - vs.length = 0 := by
        have := (List.getElem?_eq_some_iff.1 hy).1
        simp at this
        omega
      rw [this] at hy
      cases hy
      exact .inr ⟨rfl, by rw [← h.len]; omega⟩
  refine ⟨⟨c2, cf 2⟩, ?_, ?_, ?_, by simp [h.len], ?_, ?_, ?_⟩
  · refine ⟨?_, ?_, ?_, by rw [hszS]; omega, fun b hb hne => ?_⟩
    · exact (show W3.os = V.os from hg.os.trans h.low.os)
    · exact (show W3.tape = V.tape from hg.tape.trans h.low.tape)
    · exact (show W3.output = V.output from hg.output.trans h.low.output)
    · rw [oth b hne, keep b (by omega) (fun e => by have := hpo b e; omega)]
      exact h.low.block b hb hne
  · rw [heap_setCell_same W3 kb 2 _ _ _ hbox3]
    simp
  · rw [List.length_append]
    exact row_same ho (fun g hg1 hg2 _ => oth g (by omega))
  · intro u y q hy hq
    rcases hall u y hy with ⟨u', hu', rfl, hlt⟩ | ⟨rfl, rfl⟩
    · rw [List.getElem?_append_left hlt] at hq
      refine (h.sees u' y q hu' hq).same fun b hb => ?_
      obtain ⟨a1, _, a2, a3, _⟩ := h.far u' y b hu' hb
      rw [oth b a1, keep b a3 a2]
    · rw [List.getElem?_append_right (by omega)] at hq
      simp at hq
      subst hq
      refine hx.same fun b hb => ?_
      obtain ⟨a1, _, a2, a3, _⟩ := hxb b hb
      rw [oth b a1, keep b a3 a2]
  · intro u y b hy hb
    have key : b ≠ kb ∧ b ≠ rb ∧ pv.ownBlock ≠ some b ∧ b < W.heap.size ∧ B0 ≤ b := by
      rcases hall u y hy with ⟨u', hu', rfl, hlt⟩ | ⟨rfl, rfl⟩
      · exact h.far u' y b hu' hb
      · exact hxb b hb
    obtain ⟨a1, a0, a2, a3, a5⟩ := key
    refine ⟨a1, a0, fun e => ?_, by rw [hszS]; omega, a5⟩
    rcases hat with e1 | e1
    · exact a2 (e1 ▸ e)
    · rw [e1] at e
      cases e
      omega
  · intro q hq
    rcases List.mem_append.1 hq with hq | hq
    · exact h.one q hq
    · cases List.mem_singleton.1 hq
      exact hone
theorem KL.seesL (h : KL B0 kb rb kd bv R br V ps pv vs W) {W' : World} (hk : ∀ b, b ≠ rb → b < W.heap.size → W'.heap[b]? = W.heap[b]?) (hr : rb < V.heap.size) (hB : B0 ≤ V.heap.size) : SeesLN B0 W' pv (ps.map fun p => (way R br p).1) := by
  have hrow : W'.ownsRow V.heap.size 36 1 pv ps.length vs := row_same h.own fun g _ hg hl => hk g (by omega) hl
  rcases h.own.2 with ⟨e, h0⟩ | ⟨g, cap, cur, e, _⟩
  · refine ⟨none, 0, by rw [e, List.length_map, h0], fun k l hl => ?_⟩
    have := (List.getElem?_eq_some_iff.1 hl).1
    rw [List.length_map] at this
    omega
  · refine ⟨_, cap, by rw [e, List.length_map], fun k l hl => ?_⟩
    rw [List.getElem?_map] at hl
    obtain ⟨p, hp, rfl⟩ := Option.map_eq_some_iff.1 hl
    obtain ⟨x, hx⟩ : ∃ x, vs[k]? = some x := ⟨_, List.getElem?_eq_getElem (by rw [h.len]; exact (List.getElem?_eq_some_iff.1 hp).1)⟩
    refine ⟨g, 0, x, rfl, Nat.le_trans hB (World.ownsRow.lt h.own g (by rw [e]; rfl)).1, ?_, (h.sees k x p hx hp).same fun b hb => ?_, fun b hb => (h.far k x b hx hb).2.2.2.2⟩
    · have := World.ownsRow.cells hrow (g := g) (by rw [e]; rfl) k x hx
      have ea : ((⟨g, 0, none⟩ : Addr).add k) = ⟨g, 0 + k, none⟩ := by
        by_cases h0 : k = 0 <;> simp [Addr.add, h0]
      rw [ea] at this
      exact this
    · obtain ⟨_, a2, _, a4, _⟩ := h.far k x b hx hb
      exact hk b a2 a4
end
theorem out_len (kd L : Nat) : ∀ {i j : Nat}, (inn kd i j).length ≤ j ∧ (out kd L i).length ≤ i * L := by
  have h1 : ∀ i j, (inn kd i j).length ≤ j := by
    intro i j
    induction j with
    | zero => exact Nat.le_refl _
    | succ j ih =>
      unfold inn
      split
      · rw [List.length_append]; simp; omega
      · omega
  intro i j
  refine ⟨h1 i j, ?_⟩
  induction i with
  | zero => simp [out]
  | succ i ih =>
    unfold out
    rw [List.length_append, Nat.succ_mul]
    have := h1 i L
    omega
theorem mem_inn15 {kd i j : Nat} (hij : i < j) (hs : ¬ (kd = 2 ∧ (3 ≤ i ∨ j < 3))) : ∀ {k : Nat}, j < k → (i, j) ∈ inn kd i k
  | 0, h => by omega
  | k + 1, h => by
    by_cases e : j = k
    · subst e
      rw [inn_yes hij hs]
      simp
    · have := mem_inn15 hij hs (k := k) (by omega)
      unfold inn
      split
      · exact List.mem_append_left _ this
      · exact this
theorem mem_out15 {kd q i j : Nat} (hi : i < q) (hij : i < j) (hj : j < q) (hs : ¬ (kd = 2 ∧ (3 ≤ i ∨ j < 3))) : (i, j) ∈ out kd q q := by
  have : ∀ k, i < k → (i, j) ∈ out kd q k := by
    intro k
    induction k with
    | zero => intro h; omega
    | succ k ih =>
      intro h
      unfold out
      by_cases e : i = k
      · subst e
        exact List.mem_append_right _ (mem_inn15 hij hs hj)
      · exact List.mem_append_left _ (ih (by omega))
  exact this q hi
end Ku

set_option maxRecDepth 100000 in
set_option maxHeartbeats 16000000 in
theorem rtail {t0 t1 t3 t4 t5 t6 t8 t9 t10 t11 t12 t14 t15 t16 t17 t18 t19 t20 t21 t22 t23 t24 t25 t26 t27 t28 t29 t30 t31 t32 t33 t34 t35 t36 t37 t38 t39 t40 t41 t42 t43 t44 t45 t46 t47 t48 t49 t50 t51 t52 t53 t54 t55 t56 t57 t58 t59 t60 t61 t62 t63 t64 t65 t66 t67 t68 t69 t70 t71 t72 t73 t74 t75 t76 t77 t78 t79 t80 t81 t82 t83 t84 t85 t86 t87 t88 t89 t90 t91 t92 t93 t94 t95 t96 t97 t98 t99 t100 t101 t102 t103 t104 t105 t106 t107 t108 t109 t110 t111 t112 t113 t114 t115 t116 t117 t118 t119 t120 t121 t122 t123 t124 t125 t126 t127 t128 t129 t130 t131 t132 t133 t134 t135 t136 t137 t138 t139 t140 t141 : Value} (B kb rb J cc q bc kd : Nat) (ca ba : Option Addr) (us : List Value) (R : List (List Int)) (br : List Int) (n : Int) (es : List (Int × Int)) (w V : World)
    (hkd : kd = 1 ∨ kd = 2) (hq : br.length = q) (hq6 : q ≤ 6) (hJ : R.length = J) (hJl : J ≤ 17592186044000) (hRZ : RowsZ V B (.slice ca J cc) us R) (hus : ∀ b, ((Value.slice ca J cc).ownBlock = some b ∨ inV us b) → b ≠ kb ∧ b ≠ rb) (hlr : ∀ l ∈ R, 1 ≤ l.length ∧ l.length ≤ 17592186044000)
    (hbr : IntsAt V ba br) (hbb : ∀ x, ba = some x → x.block ≠ kb ∧ x.block ≠ rb ∧ w.heap.size ≤ x.block) (hBw : w.heap.size ≤ B) (hbox : V.heap[kb]? = some (.cells #[.int .i64 (kd : Int), .slice ba q bc, .slice none 0 0] 38 (0, 0))) (hrb : V.heap[rb]? = some (.cells #[.int .i64 0, .slice none 0 0, .slice none 0 0] 38 (0, 0))) (hne : rb ≠ kb)
    (hlow : w.heap.size ≤ kb ∧ w.heap.size ≤ rb) (hB : Below w.heap.size w V) (hpost : ∀ e w', Ku.Found w.heap.size kd R br e w' → Below w.heap.size w w' → Ku.RecP n es w e w') :
    Code.wp Try.prog (Ku.spine15 12 (Try.f14.body.getD .skip)) (bodyPost Try.prog Try.f14 (Ku.RecP n es w)) { tmps := #[t0, t1, .pointer (some ⟨rb, 0, none⟩), t3, t4, t5, t6, .slice ca J cc, t8, t9, t10, t11, t12, .pointer (some ⟨kb, 0, none⟩), t14, t15, t16, t17, t18, t19, t20, t21, t22, t23, t24, t25, t26, t27, t28, t29, t30, t31, t32, t33, t34, t35, t36, t37, t38, t39, t40, t41, t42, t43, t44, t45, t46, t47, t48, t49, t50, t51, t52, t53, t54, t55, t56, t57, t58, t59, t60, t61, t62, t63, t64, t65, t66, t67, t68, t69, t70, t71, t72, t73, t74, t75, t76, t77, t78, t79, t80, t81, t82, t83, t84, t85, t86, t87, t88, t89, t90, t91, t92, t93, t94, t95, t96, t97, t98, t99, t100, t101, t102, t103, t104, t105, t106, t107, t108, t109, t110, t111, t112, t113, t114, t115, t116, t117, t118, t119, t120, t121, t122, t123, t124, t125, t126, t127, t128, t129, t130, t131, t132, t133, t134, t135, t136, t137, t138, t139, t140, t141], defers := [] } V := by
  obtain ⟨iR, hiR, hR0, hR1, hR2⟩ := info_parts Try.infoRow
  have hkV : kb < V.heap.size := lt_of_block hbox
  have hrV : rb < V.heap.size := lt_of_block hrb
  have HK0 : Hid (Ku.KL w.heap.size kb rb (kd : Int) (.slice ba q bc) R br V [] (.slice none 0 0) [] V) := ⟨Wrote.refl _ _, hbox, World.ownsRow_nil _ _ _ _, rfl, fun u x p hx => by simp at hx, fun u x b hx => by simp at hx, fun p hp => by simp at hp⟩
  have HKEEP : Hid (∀ U : World, Wrote (fun b => b = kb) V U → RowsZ U B (.slice ca J cc) us R ∧ IntsAt U ba br ∧ U.heap[rb]? = some (.cells #[.int .i64 0, .slice none 0 0, .slice none 0 0] 38 (0, 0)) ∧ Below w.heap.size w U) := fun U hU => by
    refine ⟨hRZ.kept fun b hb hl => hU.block b hl (hus b hb).1, fun j x hj => ?_, (hU.block rb hrV hne).trans hrb, ?_⟩
    · obtain ⟨b, o, rfl, hc⟩ := hbr j x hj
      exact ⟨b, o, rfl, (World.cell?_of_block (a := ⟨b, o + j, none⟩) (hU.block b (block_lt_of_cell hc) (hbb _ rfl).1)).trans hc⟩
    · exact ⟨hU.os.trans hB.os, hU.tape.trans hB.tape, hU.output.trans hB.output, Nat.le_trans hB.size hU.size, fun b hb => (hU.block b (Nat.lt_of_lt_of_le hb hB.size) (by omega)).trans (hB.block b hb)⟩
  have HQ := Nu.hid hq
  have HJ := Nu.hid hJ
  have HLR := Nu.hid hlr
  have HUS := Nu.hid hus
  have HUL : Hid (∀ b, inV us b → b < V.heap.size ∧ w.heap.size ≤ b) := fun b hb => ⟨(hRZ.within (.inr hb)).2, Nat.le_trans hBw (hRZ.within (.inr hb)).1⟩
  have hwV : w.heap.size ≤ V.heap.size := hB.size
  have HBB := Nu.hid hbb
  have HPOST := Nu.hid hpost
  have HKD := Nu.hid hkd
  have hkd3 : kd ≤ 2 := by omega
  clear hbox hrb hRZ hbr hB hq hJ hlr hus hbb hpost hkd
  simp only [Try.f14, Option.getD, Ku.spine15]
  go_wp2
  go_loopw [14] (fun cv wr => ∃ (i : Nat) (pv : Value) (vs : List Value), i ≤ q ∧ cv = .int .i64 (i : Int) ∧ Ku.KL w.heap.size kb rb (kd : Int) (.slice ba q bc) R br V (Ku.out kd q i) pv vs wr) (fun cv _ => q - (intOf cv).toNat)
  case atStart => exact ⟨0, _, _, Nat.zero_le _, rfl, HK0.out⟩
  case round =>
    obtain ⟨i, pv, vs, hiN, rfl, hks⟩ := hrel
    obtain ⟨U, rfl⟩ : ∃ U, U = wr := ⟨wr, rfl⟩
    have HKS := Nu.hid hks
    have hwi : IntKind.i64.wrap ((i : Int) + 1) = (i : Int) + 1 := by rw [IntKind.wrap_i64]; omega
    obtain ⟨b0, b1, b2, bf⟩ := cells3_15 hks.box
    by_cases hlt : i < q
    · have hlti : (i : Int) < (q : Int) := by omega
      clear hks bf
      go_wp2
      go_loopw [15] (fun cv wx => ∃ (j : Nat) (z : Int) (pv : Value) (vs : List Value), i + 1 ≤ j ∧ j ≤ q ∧ cv = .int .i64 z ∧ z = (j : Int) ∧ Ku.KL w.heap.size kb rb (kd : Int) (.slice ba q bc) R br V (Ku.out kd q i ++ Ku.inn kd i j) pv vs wx) (fun cv _ => q - (intOf cv).toNat)
      case atStart => exact ⟨i + 1, _, pv, vs, Nat.le_refl _, by omega, rfl, by omega, by rw [Ku.inn_nil kd i (Nat.le_refl _), List.append_nil]; exact HKS.out⟩
      case round =>
        obtain ⟨j, z, pv', vs', hij, hjN, rfl, rfl, hks⟩ := hrel
        obtain ⟨X, rfl⟩ : ∃ X, X = wr := ⟨wr, rfl⟩
        have HKV := Nu.hid hks
        have hwj : IntKind.i64.wrap ((j : Int) + 1) = (j : Int) + 1 := by rw [IntKind.wrap_i64]; omega
        clear b0 b1 b2
        obtain ⟨b0, b1, b2, bf⟩ := cells3_15 hks.box
        by_cases hjt : j < q
        · have hjti : (j : Int) < (q : Int) := by omega
          by_cases hsk : kd = 2 ∧ (3 ≤ i ∨ j < 3)
          · have HN : Hid (Ku.inn kd i (j + 1) = Ku.inn kd i j) := Ku.inn_no hsk
            have k2 : ((kd : Int) == 2) = true := by rw [hsk.1]; rfl
            clear hks bf
            by_cases hi3 : 3 ≤ i
            · have g3 : (3 : Int) ≤ (i : Int) := by omega
              clear hsk
              go_wp2
              go_roundw
              case rel => exact ⟨j + 1, _, pv', vs', by omega, by omega, rfl, by omega, by rw [HN.out]; exact HKV.out⟩
              case measure => simp [intOf]; omega
            · have g3 : ¬ (3 : Int) ≤ (i : Int) := by omega
              have g4 : (j : Int) < 3 := by omega
              clear hsk
              go_wp2
              go_roundw
              case rel => exact ⟨j + 1, _, pv', vs', by omega, by omega, rfl, by omega, by rw [HN.out]; exact HKV.out⟩
              case measure => simp [intOf]; omega
          · have HN : Hid (Ku.inn kd i (j + 1) = Ku.inn kd i j ++ [(i, j)]) := Ku.inn_yes (by omega) hsk
            obtain ⟨hRX, hBX, hrX, hwX⟩ := HKEEP.out X hks.low
            obtain ⟨x, hx⟩ : ∃ x, br[i]? = some x := ⟨_, List.getElem?_eq_getElem (by rw [HQ.out]; exact hlt)⟩
            obtain ⟨y, hy⟩ : ∃ y, br[j]? = some y := ⟨_, List.getElem?_eq_getElem (by rw [HQ.out]; exact hjt)⟩
            obtain ⟨bb, bo, rfl, cx⟩ := hBX i x hx
            obtain ⟨b', o', e', cy⟩ := hBX j y hy
            cases e'
            have HGX := Nu.hid (Ku.gI_at hx)
            have HGY := Nu.hid (Ku.gI_at hy)
            have hi0 : (0 : Int) ≤ (i : Int) := by omega
            have hj0 : (0 : Int) ≤ (j : Int) := by omega
            have hS : ∀ Y, Below X.heap.size X Y → (Y.cell? ⟨kb, 1, none⟩ = some (.slice (some ⟨bb, bo, none⟩) q bc) ∧ Y.cell? ⟨bb, bo + i, none⟩ = some (.int .i64 x) ∧ Y.cell? ⟨bb, bo + j, none⟩ = some (.int .i64 y) ∧ Below X.heap.size X Y) := fun Y hY => ⟨(hY.cell (p := ⟨kb, 1, none⟩) (block_lt_of_cell b1)).trans b1, (hY.cell (p := ⟨bb, bo + i, none⟩) (block_lt_of_cell cx)).trans cx, (hY.cell (p := ⟨bb, bo + j, none⟩) (block_lt_of_cell cy)).trans cy, hY⟩
            have HS := Nu.hid hS
            have hbr : Below X.heap.size X X.drew := (Below.refl _ _).drew
            have HBET : Hid (∀ Y, Below X.heap.size X Y → Calls Try.prog 35 #[.slice ca J cc, .int .i64 x, .int .i64 y] Y (Ku.BetwP us R x y Y)) := fun Y hY => kbetween_any B ca J cc us R x y Y HJ.out (hRX.later hY) hJl HLR.out
            have HWX := Nu.hid hwX
            have HRB : Hid (X.heap[rb]? = some (.cells #[.int .i64 0, .slice none 0 0, .slice none 0 0] 38 (0, 0))) := Nu.hid hrX
            have HSK := Nu.hid hsk
            have k2 : ((kd : Int) == 2) = false ∨ (((kd : Int) == 2) = true ∧ ¬ (3 : Int) ≤ (i : Int) ∧ ¬ (j : Int) < 3) := by
              by_cases h : kd = 2
              · exact .inr ⟨by rw [h]; rfl, by omega, by omega⟩
              · exact .inl (by simp; omega)
            clear hks bf hRX hBX hrX hwX hx hy hS hsk
            have hMID : ∀ (X6 : World) (v : Value), Ku.SeesI X6 v (Ku.betw R x y R.length).1 → Ku.From us X v → Below X.heap.size X X6 → True := fun _ _ _ _ _ => trivial
            clear hMID
            rcases k2 with k2 | ⟨k2, g3, g4⟩
            · go_wp2_with fail
              go_region_held3 (fun Y => Y.cell? ⟨kb, 1, none⟩ = some (.slice (some ⟨bb, bo, none⟩) q bc) ∧ Y.cell? ⟨bb, bo + i, none⟩ = some (.int .i64 x) ∧ Y.cell? ⟨bb, bo + j, none⟩ = some (.int .i64 y) ∧ Below X.heap.size X Y)
                (exact HS.out _ (by first | assumption | exact hbr))
                ((go_at_call 35; refine (HBET.out _ (by first | assumption | exact hbr)).mono ?_; rintro e w6 ⟨v6, rfl, hs6, hf6, hbs⟩; have hbz : Below X.heap.size X w6 := Below.trans (by first | assumption | exact hbr) (hbs.mono (Below.size (by first | assumption | exact hbr)))))
              have HK6 := Nu.hid (HKV.out.later hbz)
              have HWAY : Hid (Ku.way R br (i, j) = Ku.betw R x y R.length) := by
                unfold Ku.way
                rw [HGX.out, HGY.out]
                exact Nu.hid rfl
              have hf : Ku.From us X v6 := hf6
              have hsz6 : X.heap.size ≤ w6.heap.size := hbz.size
              by_cases h1 : (Ku.betw R x y R.length).2 = 1
              · have e1 : (((Ku.betw R x y R.length).2 : Int) == 1) = true := by rw [h1]; rfl
                rw [e1]
                have hnn := Ku.betw_ne R x y (fun l hl => (HLR.out l hl).1) R.length (Nat.le_refl _) (by rw [h1]; decide)
                have HXB : Hid (∀ b, v6.ownBlock = some b → b ≠ kb ∧ b ≠ rb ∧ pv'.ownBlock ≠ some b ∧ b < w6.heap.size ∧ w.heap.size ≤ b) := by
                  refine Nu.hid fun b hb => ?_
                  have a4 := hs6.lt hnn hb
                  have hpl := fun e => World.ownsRow.lt HKV.out.own b e
                  rcases hf b hb with ⟨u, hu, hub⟩ | hge
                  · obtain ⟨t, ht⟩ := List.getElem?_of_mem hu
                    have hin : inV us b := ⟨t, u, ht, hub⟩
                    have a1 := HUS.out b (.inr hin)
                    have a2 := HUL.out b hin
                    refine ⟨a1.1, a1.2, fun e => ?_, a4, a2.2⟩
                    have := (hpl e).1
                    omega
                  · have hv := HKV.out.low.size
                    refine ⟨by omega, by omega, fun e => ?_, a4, by omega⟩
                    have := (hpl e).2
                    omega
                obtain ⟨va, vc, hve, hi6⟩ := hs6
                obtain ⟨Lb, hLb⟩ : ∃ Lb, (Ku.betw R x y R.length).1.length = Lb := ⟨_, rfl⟩
                have HSE : Hid (Ku.SeesI w6 v6 (Ku.way R br (i, j)).1) := by rw [HWAY.out]; exact ⟨va, vc, hve, hi6⟩
                rw [hLb] at hve
                subst hve
                obtain ⟨P, hP⟩ : ∃ P, (Ku.out kd q i ++ Ku.inn kd i j).length = P := ⟨_, rfl⟩
                have hPl : P ≤ 100 := by
                  rw [← hP, List.length_append]
                  have h1 := (Ku.out_len kd q (i := i) (j := j))
                  have h2 : i * q ≤ 6 * 6 := Nat.mul_le_mul (by omega) (by omega)
                  omega
                obtain ⟨pa, pc, hpe⟩ : ∃ pa pc, pv' = .slice pa P pc := by
                  rcases HKV.out.own.2 with ⟨e, h0⟩ | ⟨g, cap, cur, e, _⟩
                  · exact ⟨none, 0, by rw [e, ← hP, h0]⟩
                  · exact ⟨_, cap, by rw [e, ← hP]⟩
                subst hpe
                obtain ⟨c0, c1, c2, cf⟩ := cells3_15 HK6.out.box
                have hcf := cf 2
                have HOUT : Hid (w6.ownsRow V.heap.size 36 1 (.slice pa P pc) P vs') := by
                  have := HK6.out.own
                  rw [hP] at this
                  exact Nu.hid this
                have HP := Nu.hid hP
                have hV6 : V.heap.size ≤ w6.heap.size := HK6.out.low.size
                have HWO : Hid ((Ku.way R br (i, j)).2 = 1) := by rw [HWAY.out]; exact h1
                clear cf hbz hbs hf6 hf hnn hi6 hLb hP h1 e1 hbr b0 b1 b2 cx cy HS HBET
                go_wp2_with (at_builtin; refine wpList_append_own_at _ rfl _ _ 26 rfl V.heap.size 36 iR (.slice none 0 0) 1 24 Try.underlying26 hiR hR0 hR1 hR2 rfl (by decide) _ _ _ rfl (World.ownsRow.alloc HOUT.out _) ⟨w6.heap.size, 0, none⟩ 1 1 [.slice va Lb vc] rfl rfl (cell_one_new _ _ _) (by simp [Value.oneCell']) (by unfold maxLen; omega) (by omega) (by simp; omega) ?_; refine Hid.out ?_)
                refine Nu.hid ?_
                intro v' w4 hown4 hgrow4 _ hat4
                have hat4' : v'.ownBlock = (Value.slice pa P pc).ownBlock ∨ v'.ownBlock = some (w6.heap.size + 1) := by simpa using hat4
                obtain ⟨⟨d2, d3⟩, hK4⟩ := HK6.out.push hkV HSE.out HWO.out HXB.out (by rw [HP.out]; exact hown4) hgrow4 hat4'
                obtain ⟨qa, qc, hqe⟩ : ∃ qa qc, v' = .slice qa (P + 1) qc := by
                  rcases hown4.2 with ⟨e, h0⟩ | ⟨g, cap, cur, e, _⟩
                  · omega
                  · exact ⟨_, cap, e⟩
                subst hqe
                have HK4 := Nu.hid hK4
                clear hown4 hgrow4 hat4 hat4' hK4
                go_wp2
                go_roundw
                case rel => exact ⟨j + 1, _, _, _, by omega, by omega, rfl, by omega, by rw [HN.out, ← List.append_assoc]; exact HK4.out⟩
                case measure => simp [intOf]; omega
              · have e1 : (((Ku.betw R x y R.length).2 : Int) == 1) = false := by simp; omega
                rw [e1]
                obtain ⟨z0, z1, z2, zf⟩ := cells3_15 (blk_later15 HRB.out hbz)
                have hz0 := zf 0
                have hz1 := zf 1
                have hz2 := zf 2
                have HB6 := Nu.hid (HWX.out.trans (hbz.mono HWX.out.size))
                have HNO : Hid ((Ku.way R br (i, j)).2 ≠ 1) := by rw [HWAY.out]; exact h1
                have HMEM : Hid ((i, j) ∈ Ku.out kd br.length br.length) := by
                  rw [HQ.out]
                  exact Nu.hid (Ku.mem_out15 hlt (by omega) hjt HSK.out)
                clear zf hbz hbs hf6 hf hs6 h1 e1 hbr b0 b1 b2 cx cy HS HBET
                go_wp2
                refine bodyPost_ret (results_kura3 rfl rfl _ _ rb _ _ _ _ _ rfl rfl rfl (set_three15 z0 z1 z2 _ _ _).1 (set_three15 z0 z1 z2 _ _ _).2.1 (set_three15 z0 z1 z2 _ _ _).2.2) rfl ?_
                exact HPOST.out _ _ (.inl ⟨⟨(i, j), HMEM.out, HNO.out⟩, rfl⟩) (below_set3 HB6.out hlow.2 _ _ _)
            · go_wp2_with fail
              go_region_held3 (fun Y => Y.cell? ⟨kb, 1, none⟩ = some (.slice (some ⟨bb, bo, none⟩) q bc) ∧ Y.cell? ⟨bb, bo + i, none⟩ = some (.int .i64 x) ∧ Y.cell? ⟨bb, bo + j, none⟩ = some (.int .i64 y) ∧ Below X.heap.size X Y)
                (exact HS.out _ (by first | assumption | exact hbr))
                ((go_at_call 35; refine (HBET.out _ (by first | assumption | exact hbr)).mono ?_; rintro e w6 ⟨v6, rfl, hs6, hf6, hbs⟩; have hbz : Below X.heap.size X w6 := Below.trans (by first | assumption | exact hbr) (hbs.mono (Below.size (by first | assumption | exact hbr)))))
              have HK6 := Nu.hid (HKV.out.later hbz)
              have HWAY : Hid (Ku.way R br (i, j) = Ku.betw R x y R.length) := by
                unfold Ku.way
                rw [HGX.out, HGY.out]
                exact Nu.hid rfl
              have hf : Ku.From us X v6 := hf6
              have hsz6 : X.heap.size ≤ w6.heap.size := hbz.size
              by_cases h1 : (Ku.betw R x y R.length).2 = 1
              · have e1 : (((Ku.betw R x y R.length).2 : Int) == 1) = true := by rw [h1]; rfl
                rw [e1]
                have hnn := Ku.betw_ne R x y (fun l hl => (HLR.out l hl).1) R.length (Nat.le_refl _) (by rw [h1]; decide)
                have HXB : Hid (∀ b, v6.ownBlock = some b → b ≠ kb ∧ b ≠ rb ∧ pv'.ownBlock ≠ some b ∧ b < w6.heap.size ∧ w.heap.size ≤ b) := by
                  refine Nu.hid fun b hb => ?_
                  have a4 := hs6.lt hnn hb
                  have hpl := fun e => World.ownsRow.lt HKV.out.own b e
                  rcases hf b hb with ⟨u, hu, hub⟩ | hge
                  · obtain ⟨t, ht⟩ := List.getElem?_of_mem hu
                    have hin : inV us b := ⟨t, u, ht, hub⟩
                    have a1 := HUS.out b (.inr hin)
                    have a2 := HUL.out b hin
                    refine ⟨a1.1, a1.2, fun e => ?_, a4, a2.2⟩
                    have := (hpl e).1
                    omega
                  · have hv := HKV.out.low.size
                    refine ⟨by omega, by omega, fun e => ?_, a4, by omega⟩
                    have := (hpl e).2
                    omega
                obtain ⟨va, vc, hve, hi6⟩ := hs6
                obtain ⟨Lb, hLb⟩ : ∃ Lb, (Ku.betw R x y R.length).1.length = Lb := ⟨_, rfl⟩
                have HSE : Hid (Ku.SeesI w6 v6 (Ku.way R br (i, j)).1) := by rw [HWAY.out]; exact ⟨va, vc, hve, hi6⟩
                rw [hLb] at hve
                subst hve
                obtain ⟨P, hP⟩ : ∃ P, (Ku.out kd q i ++ Ku.inn kd i j).length = P := ⟨_, rfl⟩
                have hPl : P ≤ 100 := by
                  rw [← hP, List.length_append]
                  have h1 := (Ku.out_len kd q (i := i) (j := j))
                  have h2 : i * q ≤ 6 * 6 := Nat.mul_le_mul (by omega) (by omega)
                  omega
                obtain ⟨pa, pc, hpe⟩ : ∃ pa pc, pv' = .slice pa P pc := by
                  rcases HKV.out.own.2 with ⟨e, h0⟩ | ⟨g, cap, cur, e, _⟩
                  · exact ⟨none, 0, by rw [e, ← hP, h0]⟩
                  · exact ⟨_, cap, by rw [e, ← hP]⟩
                subst hpe
                obtain ⟨c0, c1, c2, cf⟩ := cells3_15 HK6.out.box
                have hcf := cf 2
                have HOUT : Hid (w6.ownsRow V.heap.size 36 1 (.slice pa P pc) P vs') := by
                  have := HK6.out.own
                  rw [hP] at this
                  exact Nu.hid this
                have HP := Nu.hid hP
                have hV6 : V.heap.size ≤ w6.heap.size := HK6.out.low.size
                have HWO : Hid ((Ku.way R br (i, j)).2 = 1) := by rw [HWAY.out]; exact h1
                clear cf hbz hbs hf6 hf hnn hi6 hLb hP h1 e1 hbr b0 b1 b2 cx cy HS HBET
                go_wp2_with (at_builtin; refine wpList_append_own_at _ rfl _ _ 26 rfl V.heap.size 36 iR (.slice none 0 0) 1 24 Try.underlying26 hiR hR0 hR1 hR2 rfl (by decide) _ _ _ rfl (World.ownsRow.alloc HOUT.out _) ⟨w6.heap.size, 0, none⟩ 1 1 [.slice va Lb vc] rfl rfl (cell_one_new _ _ _) (by simp [Value.oneCell']) (by unfold maxLen; omega) (by omega) (by simp; omega) ?_; refine Hid.out ?_)
                refine Nu.hid ?_
                intro v' w4 hown4 hgrow4 _ hat4
                have hat4' : v'.ownBlock = (Value.slice pa P pc).ownBlock ∨ v'.ownBlock = some (w6.heap.size + 1) := by simpa using hat4
                obtain ⟨⟨d2, d3⟩, hK4⟩ := HK6.out.push hkV HSE.out HWO.out HXB.out (by rw [HP.out]; exact hown4) hgrow4 hat4'
                obtain ⟨qa, qc, hqe⟩ : ∃ qa qc, v' = .slice qa (P + 1) qc := by
                  rcases hown4.2 with ⟨e, h0⟩ | ⟨g, cap, cur, e, _⟩
                  · omega
                  · exact ⟨_, cap, e⟩
                subst hqe
                have HK4 := Nu.hid hK4
                clear hown4 hgrow4 hat4 hat4' hK4
                go_wp2
                go_roundw
                case rel => exact ⟨j + 1, _, _, _, by omega, by omega, rfl, by omega, by rw [HN.out, ← List.append_assoc]; exact HK4.out⟩
                case measure => simp [intOf]; omega
              · have e1 : (((Ku.betw R x y R.length).2 : Int) == 1) = false := by simp; omega
                rw [e1]
                obtain ⟨z0, z1, z2, zf⟩ := cells3_15 (blk_later15 HRB.out hbz)
                have hz0 := zf 0
                have hz1 := zf 1
                have hz2 := zf 2
                have HB6 := Nu.hid (HWX.out.trans (hbz.mono HWX.out.size))
                have HNO : Hid ((Ku.way R br (i, j)).2 ≠ 1) := by rw [HWAY.out]; exact h1
                have HMEM : Hid ((i, j) ∈ Ku.out kd br.length br.length) := by
                  rw [HQ.out]
                  exact Nu.hid (Ku.mem_out15 hlt (by omega) hjt HSK.out)
                clear zf hbz hbs hf6 hf hs6 h1 e1 hbr b0 b1 b2 cx cy HS HBET
                go_wp2
                refine bodyPost_ret (results_kura3 rfl rfl _ _ rb _ _ _ _ _ rfl rfl rfl (set_three15 z0 z1 z2 _ _ _).1 (set_three15 z0 z1 z2 _ _ _).2.1 (set_three15 z0 z1 z2 _ _ _).2.2) rfl ?_
                exact HPOST.out _ _ (.inl ⟨⟨(i, j), HMEM.out, HNO.out⟩, rfl⟩) (below_set3 HB6.out hlow.2 _ _ _)
        · have hd : ¬ ((j : Int) < (q : Int)) := by omega
          obtain rfl : j = q := by omega
          clear hks bf
          go_wp2
          go_roundw
          case rel => exact ⟨i + 1, pv', vs', by omega, by go_num, HKV.out⟩
          case measure => simp [intOf]; omega
    · have hd : ¬ ((i : Int) < (q : Int)) := by omega
      obtain rfl : i = q := by omega
      clear hks bf
      obtain ⟨-, hBX, hrX, hwX⟩ := HKEEP.out U HKS.out.low
      obtain ⟨z0, z1, z2, zf⟩ := cells3_15 hrX
      have hz0 := zf 0
      have hz1 := zf 1
      have hz2 := zf 2
      obtain ⟨P, hP⟩ : ∃ P, (Ku.out kd i i).length = P := ⟨_, rfl⟩
      obtain ⟨pa, pc, hpe⟩ : ∃ pa pc, pv = .slice pa P pc := by
        rcases HKS.out.own.2 with ⟨e, h0⟩ | ⟨g, cap, cur, e, _⟩
        · exact ⟨none, 0, by rw [e, ← hP, h0]⟩
        · exact ⟨_, cap, by rw [e, ← hP]⟩
      subst hpe
      have HP := Nu.hid hP
      have HWX := Nu.hid hwX
      have HBX := Nu.hid hBX
      clear zf hrX hP hwX hBX
      go_wp2_with fail
      go_big_region
      go_wp2
      refine bodyPost_ret (results_kura3 rfl rfl _ _ rb _ _ _ _ _ rfl rfl rfl (set_three15 z0 z1 z2 _ _ _).1 (set_three15 z0 z1 z2 _ _ _).2.1 (set_three15 z0 z1 z2 _ _ _).2.2) rfl ?_
      have hfar : ∀ (x y z : Value) (b : Nat), b ≠ rb → (((U.setCell ⟨rb, 0, none⟩ x).setCell ⟨rb, 1, none⟩ y).setCell ⟨rb, 2, none⟩ z).heap[b]? = U.heap[b]? := fun x y z b hb => by
        rw [heap_setCell_other _ ⟨rb, 2, none⟩ b _ hb, heap_setCell_other _ ⟨rb, 1, none⟩ b _ hb, heap_setCell_other _ ⟨rb, 0, none⟩ b _ hb]
      refine HPOST.out _ _ (.inr ⟨?_, .slice ba i bc, .slice pa P pc, ?_, ⟨ba, bc, by rw [HQ.out], fun j x hj => ?_⟩, fun b hb => ?_, ?_⟩) (below_set3 HWX.out hlow.2 _ _ _).drew
      · rw [HQ.out]
        exact HKS.out.one
      · rw [HQ.out, HP.out, HJ.out]
        rfl
      · obtain ⟨b, o, hbe, hc⟩ := HBX.out j x hj
        exact ⟨b, o, hbe, (World.cell?_of_block (w := U) (a := ⟨b, o + j, none⟩) (by exact hfar _ _ _ b (HBB.out _ hbe).2.1)).trans hc⟩
      · cases ba with
        | none => cases hb
        | some x =>
          have hbx : x.block = b := by simpa [Value.ownBlock] using hb
          rw [← hbx]
          exact (HBB.out x rfl).2.2
      · rw [HQ.out]
        exact HKS.out.seesL (fun b hb _ => by exact hfar _ _ _ b hb) hrV hwV
end Go.Proofs.Ytdhaaodalchpkaa
