/-
  The law LowMemory: the six rounds, and what follows.
-/
import Derived.Test.YtmgoahbloppdmaaGreatMg11
import Derived.Test.YtmgoahbloppdmaaGreatMg25
import Derived.Test.YtmgoahbloppdmaaGreatMg28
import Derived.Test.YtmgoahbloppdmaaGreatLmC
import Derived.Test.YtmgoahbloppdmaaGreatCoApart
import Derived.Test.YtmgoahbloppdmaaGreatSiEq
import Derived.Test.YtmgoahbloppdmaaGreatLmCp
import Derived.Deep.RegionHeld3
import Derived.Deep.CutRange
namespace Go.Proofs.YtmgoahbloppdmaaGreat
open Go.ChangeShapes Go.WideShapes Go.ChangeAt Go.RowKit
namespace lawLMem

/-- What is left of a code behind its first n statements. -/
def spine : Nat → Code → Code
  | 0, c => c
  | n + 1, .seq _ d => spine n d
  | _ + 1, c => c

/-- What stands while the rounds are gone: the boxes g, f, want, h, mine, and all that they lead to. -/
structure Mem (G0 F0 L0 H M : Nat) (n : Int) (ao : Option Addr) (ca : Nat) (es : List (Int × Int)) (a1 a2 a3 a4 : Option Addr) (c1 c2 c3 c4 : Nat) (s : Df.St) (b1 b2 b3 b4 : Option Addr) (k1 k2 k3 k4 d1 d2 d3 d4 : Nat) (gM cM : Nat) (x1 x2 x3 x4 e1 e2 e3 e4 : Nat) (A1 A2 A3 : List Int) (ls : List (List Int)) (B : Nat) (rb : Option Addr) (rk rd : Nat) (rl : List Nat) (U : World) : Prop where
  g0 : U.cell? ⟨G0, 0, none⟩ = some (.int .i64 n)
  g1 : U.cell? ⟨G0, 1, none⟩ = some (.slice ao es.length ca)
  f0 : U.cell? ⟨F0, 0, none⟩ = some (.slice a1 s.par.length c1)
  f1 : U.cell? ⟨F0, 1, none⟩ = some (.slice a2 s.hei.length c2)
  f2 : U.cell? ⟨F0, 2, none⟩ = some (.slice a3 s.ord.length c3)
  f3 : U.cell? ⟨F0, 3, none⟩ = some (.slice a4 s.ori.length c4)
  l0 : U.cell? ⟨L0, 0, none⟩ = some (.slice b1 k1 d1)
  l1 : U.cell? ⟨L0, 1, none⟩ = some (.slice b2 k2 d2)
  l2 : U.cell? ⟨L0, 2, none⟩ = some (.slice b3 k3 d3)
  l3 : U.cell? ⟨L0, 3, none⟩ = some (.slice b4 k4 d4)
  h0 : U.cell? ⟨H, 0, none⟩ = some (.int .i64 n)
  h1 : U.cell? ⟨H, 1, none⟩ = some (.slice (some ⟨gM, 0, none⟩) es.length cM)
  m0 : U.cell? ⟨M, 0, none⟩ = some (.slice (some ⟨x1, 0, none⟩) s.par.length e1)
  m1 : U.cell? ⟨M, 1, none⟩ = some (.slice (some ⟨x2, 0, none⟩) s.hei.length e2)
  m2 : U.cell? ⟨M, 2, none⟩ = some (.slice (some ⟨x3, 0, none⟩) s.ord.length e3)
  m3 : U.cell? ⟨M, 3, none⟩ = some (.slice (some ⟨x4, 0, none⟩) s.ori.length e4)
  lt : G0 < U.heap.size ∧ F0 < U.heap.size ∧ L0 < U.heap.size ∧ H < U.heap.size ∧ M < U.heap.size
  eg : EdgesAt U ao es
  eh : EdgesAt U (some ⟨gM, 0, none⟩) es
  lf : LstF U ⟨a1, a2, a3, a4, c1, c2, c3, c4⟩ s
  lm : LstF U ⟨some ⟨x1, 0, none⟩, some ⟨x2, 0, none⟩, some ⟨x3, 0, none⟩, some ⟨x4, 0, none⟩, e1, e2, e3, e4⟩ s
  want : LowAt U (.slice b1 k1 d1) (.slice b2 k2 d2) (.slice b3 k3 d3) (.slice b4 k4 d4) A1 A2 A3 ls
  back : OwnZ U B (.slice rb rk rd) (zs rl)

section
variable {G0 F0 L0 H M : Nat} {n : Int} {ao : Option Addr} {ca : Nat} {es : List (Int × Int)} {a1 a2 a3 a4 : Option Addr} {c1 c2 c3 c4 : Nat} {s : Df.St} {b1 b2 b3 b4 : Option Addr} {k1 k2 k3 k4 d1 d2 d3 d4 : Nat} {gM cM : Nat} {x1 x2 x3 x4 e1 e2 e3 e4 : Nat} {A1 A2 A3 : List Int} {ls : List (List Int)} {B : Nat} {rb : Option Addr} {rk rd : Nat} {rl : List Nat} {U U' V w : World}

theorem Mem.later (h : Mem G0 F0 L0 H M n ao ca es a1 a2 a3 a4 c1 c2 c3 c4 s b1 b2 b3 b4 k1 k2 k3 k4 d1 d2 d3 d4 gM cM x1 x2 x3 x4 e1 e2 e3 e4 A1 A2 A3 ls B rb rk rd rl U) (hb : Below U.heap.size U U') : Mem G0 F0 L0 H M n ao ca es a1 a2 a3 a4 c1 c2 c3 c4 s b1 b2 b3 b4 k1 k2 k3 k4 d1 d2 d3 d4 gM cM x1 x2 x3 x4 e1 e2 e3 e4 A1 A2 A3 ls B rb rk rd rl U' := by
  obtain ⟨y1, y2, y3, y4, y5⟩ := h.lt
  have hs := hb.size
  have c : ∀ {k i : Nat} {v : Value}, k < U.heap.size → U.cell? ⟨k, i, none⟩ = some v → U'.cell? ⟨k, i, none⟩ = some v := fun {k i v} hk hv => (hb.cell (p := ⟨k, i, none⟩) hk).trans hv
  exact ⟨c y1 h.g0, c y1 h.g1, c y2 h.f0, c y2 h.f1, c y2 h.f2, c y2 h.f3, c y3 h.l0, c y3 h.l1, c y3 h.l2, c y3 h.l3, c y4 h.h0, c y4 h.h1, c y5 h.m0, c y5 h.m1, c y5 h.m2, c y5 h.m3, ⟨by omega, by omega, by omega, by omega, by omega⟩, h.eg.later hb, h.eh.later hb, h.lf.later hb, h.lm.later hb, h.want.later hb, h.back.later hb⟩

/-- What Of answers, slice by slice, each in memory of its own. -/
theorem low_new {w' : World} {r : Ending} (h : LowPostN n es s w r w') :
    ∃ p1 k1 q1 p2 k2 q2 p3 k3 q3 p4 k4 q4 vs A1 A2 A3 ls z B, r = .returned (.tuple #[.agg #[.slice p1 k1 q1, .slice p2 k2 q2, .slice p3 k3 q3, .slice p4 k4 q4], .int .i64 z]) ∧ LowIs n es s A1 A2 A3 ls z ∧ OwnZ w' w.heap.size (.slice p1 k1 q1) A1 ∧ OwnZ w' w.heap.size (.slice p2 k2 q2) A2 ∧ OwnZ w' w.heap.size (.slice p3 k3 q3) A3 ∧ RowsZ w' B (.slice p4 k4 q4) vs ls ∧ w.heap.size ≤ B ∧ k4 = ls.length ∧ (p4 = none → q4 = 0) ∧
      (∀ b, (Value.slice p1 k1 q1).ownBlock = some b → b < B ∧ (Value.slice p2 k2 q2).ownBlock ≠ some b ∧ (Value.slice p3 k3 q3).ownBlock ≠ some b) ∧ (∀ b, (Value.slice p2 k2 q2).ownBlock = some b → b < B ∧ (Value.slice p3 k3 q3).ownBlock ≠ some b) ∧ (∀ b, (Value.slice p3 k3 q3).ownBlock = some b → b < B) ∧ Below w.heap.size w w' := by
  obtain ⟨v1, v2, v3, vo, vs, A1, A2, A3, ls, z, B, rfl, hI, o1, o2, o3, o4, hB, f1, f2, f3, hb⟩ := h
  obtain ⟨p1, q1, rfl, _⟩ := o1.form
  obtain ⟨p2, q2, rfl, _⟩ := o2.form
  obtain ⟨p3, q3, rfl, _⟩ := o3.form
  have hf : ∃ p4 q4, vo = .slice p4 ls.length q4 ∧ (p4 = none → q4 = 0) := by
    rcases o4.outer.2 with ⟨rfl, h0⟩ | ⟨g, cap, cur, rfl, _⟩
    · exact ⟨none, 0, by rw [h0], fun _ => rfl⟩
    · exact ⟨_, cap, rfl, fun e => by cases e⟩
  obtain ⟨p4, q4, rfl, hn⟩ := hf
  exact ⟨p1, _, q1, p2, _, q2, p3, _, q3, p4, _, q4, vs, A1, A2, A3, ls, z, B, rfl, hI, o1, o2, o3, o4, hB, rfl, hn, f1, f2, f3, hb⟩

set_option maxRecDepth 100000 in
set_option maxHeartbeats 16000000 in
theorem from7 {x z rz : Int} {t0 t1 t5 t6 t13 t14 t15 t16 t17 t18 t19 t20 t21 t22 t23 t24 t25 t26 t27 t28 t29 t30 t31 t32 t33 t34 t35 t36 t37 t38 t39 t40 t41 t42 t43 t44 t45 t46 t47 t48 t49 t50 t51 t52 t53 t54 t55 t56 t57 t58 t59 t60 t61 t62 t63 t64 t65 t66 t67 t68 t69 t70 t71 t72 t73 t74 t75 t76 t77 t78 t79 t80 t81 t82 t83 t84 t85 t86 t87 t88 t89 t90 t91 t92 t93 t94 t95 t96 t97 t98 t99 t100 t101 t102 t103 t104 t105 t106 t107 t108 t109 t110 t111 t112 t113 t114 t115 t116 t117 t118 t119 t120 t121 t122 t123 t124 t125 t126 t127 t128 t129 t130 t131 t132 t133 t134 t135 t136 t137 t138 t139 t140 t141 t142 t143 t144 t145 t146 t147 t148 t149 t150 t151 t152 t153 t154 t155 t156 t157 t158 t159 t160 t161 : Value} (hM : Mem G0 F0 L0 H M n ao ca es a1 a2 a3 a4 c1 c2 c3 c4 s b1 b2 b3 b4 k1 k2 k3 k4 d1 d2 d3 d4 gM cM x1 x2 x3 x4 e1 e2 e3 e4 A1 A2 A3 ls B rb rk rd rl V) (hroom : s.ord.length ≤ e3) (hl : es.length * 16 ≤ 140737488351232) (hLI : LowIs n es s A1 A2 A3 ls z) (hRI : RetIs n es s x rl rz) (hbel : Below w.heap.size w V) :
    Code.wp Tryz.prog (spine 6 (Tryz.f5.body.getD .skip)) (bodyPost Tryz.prog Tryz.f5 fun e w' => e = .returned (.bool true) ∧ Below w.heap.size w w') { tmps := #[t0, t1, .int .i64 x, .pointer (some ⟨G0, 0, none⟩), .pointer (some ⟨F0, 0, none⟩), t5, t6, .pointer (some ⟨L0, 0, none⟩), .int .i64 z, .slice rb rk rd, .int .i64 rz, .pointer (some ⟨H, 0, none⟩), .pointer (some ⟨M, 0, none⟩), t13, t14, t15, t16, t17, t18, t19, t20, t21, t22, t23, t24, t25, t26, t27, t28, t29, t30, t31, t32, t33, t34, t35, t36, t37, t38, t39, t40, t41, t42, t43, t44, t45, t46, t47, t48, t49, t50, t51, t52, t53, t54, t55, t56, t57, t58, t59, t60, t61, t62, t63, t64, t65, t66, t67, t68, t69, t70, t71, t72, t73, t74, t75, t76, t77, t78, t79, t80, t81, t82, t83, t84, t85, t86, t87, t88, t89, t90, t91, t92, t93, t94, t95, t96, t97, t98, t99, t100, t101, t102, t103, t104, t105, t106, t107, t108, t109, t110, t111, t112, t113, t114, t115, t116, t117, t118, t119, t120, t121, t122, t123, t124, t125, t126, t127, t128, t129, t130, t131, t132, t133, t134, t135, t136, t137, t138, t139, t140, t141, t142, t143, t144, t145, t146, t147, t148, t149, t150, t151, t152, t153, t154, t155, t156, t157, t158, t159, t160, t161], defers := [] } V := by
  obtain ⟨nn1, nn2, nn3, nn4, nn5⟩ := hLI.small
  have nn6 := hRI.small
  have HK : Hid (∀ U, Below V.heap.size V U → Mem G0 F0 L0 H M n ao ca es a1 a2 a3 a4 c1 c2 c3 c4 s b1 b2 b3 b4 k1 k2 k3 k4 d1 d2 d3 d4 gM cM x1 x2 x3 x4 e1 e2 e3 e4 A1 A2 A3 ls B rb rk rd rl U ∧ Below w.heap.size w U) := fun U hU => ⟨hM.later hU, hbel.trans (hU.mono hbel.size)⟩
  have HOF : Hid (∀ U, Below V.heap.size V U → Calls Tryz.prog 8 #[.agg #[.int .i64 n, .slice (some ⟨gM, 0, none⟩) es.length cM], .agg #[.slice (some ⟨x1, 0, none⟩) s.par.length e1, .slice (some ⟨x2, 0, none⟩) s.hei.length e2, .slice (some ⟨x3, 0, none⟩) s.ord.length e3, .slice (some ⟨x4, 0, none⟩) s.ori.length e4]] U (LowPostN n es s U)) := fun U hU =>
    pof_new n (some ⟨gM, 0, none⟩) cM es ⟨some ⟨x1, 0, none⟩, some ⟨x2, 0, none⟩, some ⟨x3, 0, none⟩, some ⟨x4, 0, none⟩, e1, e2, e3, e4⟩ s U (HK.out U hU).1.eh (by omega) (HK.out U hU).1.lm
  have HRT : Hid (∀ U, Below V.heap.size V U → Calls Tryz.prog 11 #[.agg #[.int .i64 n, .slice (some ⟨gM, 0, none⟩) es.length cM], .agg #[.slice (some ⟨x1, 0, none⟩) s.par.length e1, .slice (some ⟨x2, 0, none⟩) s.hei.length e2, .slice (some ⟨x3, 0, none⟩) s.ord.length e3, .slice (some ⟨x4, 0, none⟩) s.ori.length e4], .int .i64 x] U fun r w' => ∃ a k c l z, r = .returned (.tuple #[.slice a k c, .int .i64 z]) ∧ RetIs n es s x l z ∧ OwnZ w' U.heap.size (.slice a k c) (zs l) ∧ Below U.heap.size U w') := fun U hU =>
    (pret_any n (some ⟨gM, 0, none⟩) cM es ⟨some ⟨x1, 0, none⟩, some ⟨x2, 0, none⟩, some ⟨x3, 0, none⟩, some ⟨x4, 0, none⟩, e1, e2, e3, e4⟩ s x U (HK.out U hU).1.eh (by omega) (HK.out U hU).1.lm hroom).mono fun r w' h => RetPost.form h
  have HLI := Nu.hid hLI
  have HRI := Nu.hid hRI
  have hlen : es.length ≤ 8796093021952 := by omega
  clear hM hroom hLI hRI hbel hl
  simp only [Tryz.f5, Option.getD, spine]
  go_wp2
  go_loopw [13, 14] (fun c13 c14 wr => ∃ (k : Nat) (vs : List Value) (L : List (List Int)), k ≤ 6 ∧ c14 = .int .i64 (k : Int) ∧ RowsZ wr V.heap.size c13 vs L ∧ L.length ≤ k * 8388612 ∧ (∀ l ∈ L, l.length ≤ 8388608) ∧ Below V.heap.size V wr) (fun _ c14 _ => 6 - (intOf c14).toNat)
  case atStart => exact ⟨0, [], [], Nat.zero_le _, rfl, RowsZ.nil _ _, Nat.zero_le _, (fun l hl => by simp at hl), Below.refl _ _⟩
  case round =>
    obtain ⟨k, vs, L, hk, rfl, hR, hLn, hLl, hb⟩ := hrel
    obtain ⟨uo, uc, hu13⟩ := row_shape hR
    subst hu13
    have HR := Nu.hid hR
    have HLN := Nu.hid hLn
    have HLL := Nu.hid hLl
    have HB := Nu.hid hb
    have hsr := hb.size
    obtain ⟨g0, g1, f0, f1, f2, f3, l0, l1, l2, l3, h0, h1, m0, m1, m2, m3, hlt, -, -, -, -, -, -⟩ := (HK.out wr hb).1
    by_cases hk6 : k < 6
    · have hk6' : (k : Int) < 6 := by omega
      have HK6 := Nu.hid hk6
      have HO := Nu.hid (HOF.out wr hb)
      clear hR hLn hLl hb hk hk6
      go_wp2_with (go_at_call 8; refine HO.out.mono ?_; intro e w5 hp; obtain ⟨p1, kk1, q1, p2, kk2, q2, p3, kk3, q3, p4, kk4, q4, vo, A1', A2', A3', ls', z', B2, rfl, hI', o1, o2, o3, o4, hB2, hk4, hp4, fr1, fr2, fr3, hb5⟩ := low_new hp; refine Hid.out ?_)
      refine Nu.hid ?_
      obtain ⟨hq1, hq2, hq3, hq4, hq5⟩ := hI'.unique HLI.out
      subst hq1 hq2 hq3 hq4 hq5
      subst hk4
      obtain ⟨w6, hw6⟩ : ∃ w6, w6 = w5.alloc (.cells #[.slice p1 kk1 q1, .slice p2 kk2 q2, .slice p3 kk3 q3, .slice p4 ls'.length q4] 31) := ⟨_, rfl⟩
      have hb6 : Below w5.heap.size w5 w6 := by rw [hw6]; exact (Below.refl _ _).alloc (Nat.le_refl _) _
      have hs6 : w5.heap.size + 1 ≤ w6.heap.size := by rw [hw6]; simp
      have hs5 := hb5.size
      have hbr6 : Below wr.heap.size wr w6 := hb5.trans (hb6.mono hb5.size)
      have hB6 : Below V.heap.size V w6 := HB.out.trans (hbr6.mono HB.out.size)
      have lb6 : w6.heap[w5.heap.size]? = some (.cells #[.slice p1 kk1 q1, .slice p2 kk2 q2, .slice p3 kk3 q3, .slice p4 ls'.length q4] 31 (0, 0)) := by rw [hw6]; exact heap_alloc_new w5 _
      have HR6 := Nu.hid (HRT.out w6 hB6)
      -- the new lists stand in every later world
      have HNEW : Hid (∀ U, Below w6.heap.size w6 U → OwnZ U wr.heap.size (.slice p1 kk1 q1) A1' ∧ OwnZ U wr.heap.size (.slice p2 kk2 q2) A2' ∧ OwnZ U wr.heap.size (.slice p3 kk3 q3) A3' ∧ RowsZ U B2 (.slice p4 ls'.length q4) vo ls' ∧ (U.cell? ⟨w5.heap.size, 0, none⟩ = some (.slice p1 kk1 q1) ∧ U.cell? ⟨w5.heap.size, 1, none⟩ = some (.slice p2 kk2 q2) ∧ U.cell? ⟨w5.heap.size, 2, none⟩ = some (.slice p3 kk3 q3) ∧ U.cell? ⟨w5.heap.size, 3, none⟩ = some (.slice p4 ls'.length q4)) ∧ RowsZ U V.heap.size (.slice uo L.length uc) vs L) := fun U hU => by
        have h56 := hb6.trans (hU.mono hb6.size)
        obtain ⟨y0, y1, y2, y3, -⟩ := four_cells ((hU.block _ (lt_of_block lb6)).trans lb6)
        exact ⟨o1.later h56, o2.later h56, o3.later h56, o4.later h56, ⟨y0, y1, y2, y3⟩, HR.out.later (hbr6.trans (hU.mono hbr6.size))⟩
      have HLT5 : Hid ((∀ b, (Value.slice p1 kk1 q1).ownBlock = some b → wr.heap.size ≤ b ∧ b < w5.heap.size ∧ b < B2 ∧ (Value.slice p2 kk2 q2).ownBlock ≠ some b ∧ (Value.slice p3 kk3 q3).ownBlock ≠ some b) ∧ (∀ b, (Value.slice p2 kk2 q2).ownBlock = some b → wr.heap.size ≤ b ∧ b < w5.heap.size ∧ b < B2 ∧ (Value.slice p3 kk3 q3).ownBlock ≠ some b) ∧ (∀ b, (Value.slice p3 kk3 q3).ownBlock = some b → wr.heap.size ≤ b ∧ b < w5.heap.size ∧ b < B2) ∧ (∀ b, ((Value.slice p4 ls'.length q4).ownBlock = some b ∨ inV vo b) → B2 ≤ b ∧ b < w5.heap.size)) := 
        ⟨fun b hb => ⟨(o1.lt hb).1, (o1.lt hb).2, fr1 b hb⟩, fun b hb => ⟨(o2.lt hb).1, (o2.lt hb).2, fr2 b hb⟩, fun b hb => ⟨(o3.lt hb).1, (o3.lt hb).2, fr3 b hb⟩, fun b hb => o4.within hb⟩
      have HB6 := Nu.hid hB6
      have HBR6 := Nu.hid hbr6
      have HW6 := Nu.hid hw6
      have HB2 : Hid (wr.heap.size ≤ B2 ∧ (p4 = none → q4 = 0)) := ⟨hB2, hp4⟩
      obtain ⟨g0, g1, f0, f1, f2, f3, l0, l1, l2, l3, h0, h1, m0, m1, m2, m3, hlt6, -, -, -, -, -, -⟩ := (HK.out w6 hB6).1
      rw [hw6] at h0 h1 m0 m1 m2 m3
      clear hb5 hb6 hbr6 hB6 lb6 hw6 o1 o2 o3 o4 fr1 fr2 fr3 hI' hB2 hp4 hp g0 g1 f0 f1 f2 f3 l0 l1 l2 l3
      go_wp2_with (go_at_call 11; rw [← HW6.out]; refine HR6.out.mono ?_; rintro e w7 ⟨pb, kb, qb, rl', rz', rfl, hRI', hob, hb7⟩; refine Hid.out ?_)
      refine Nu.hid ?_
      obtain ⟨hq6, hq7⟩ := hRI'.unique HRI.out
      subst hq6 hq7
      have hB7 : Below V.heap.size V w7 := HB6.out.trans (hb7.mono HB6.out.size)
      have hs7 := hb7.size
      have HB67 := Nu.hid hb7
      have HOB := Nu.hid hob
      have HB7 := Nu.hid hB7
      obtain ⟨n1', n2', n3', n4', ⟨y0, y1, y2, y3⟩, -⟩ := HNEW.out w7 hb7
      obtain ⟨hmem7, -⟩ := HK.out w7 hB7
      have HSM := Nu.hid (same8_any _ _ _ _ _ _ _ _ _ _ _ _ w7 ⟨⟨_, n1'⟩, ⟨_, n2'⟩, ⟨_, n3'⟩, _, _, n4'⟩ hmem7.want nn1 nn2 nn3 nn4 nn5)
      obtain ⟨g0, g1, f0, f1, f2, f3, l0, l1, l2, l3, h0, h1, m0, m1, m2, m3, hlt7, -, -, -, -, -, -⟩ := hmem7
      clear hRI' hob hb7 hB7 n1' n2' n3' n4' g0 g1 f0 f1 f2 f3 h0 h1 m0 m1 m2 m3
      have t1 : (z' != z') = false := by simp
      have t2 : (rz' != rz') = false := by simp
      go_wp2_with (go_at_call 9; refine HSM.out.mono ?_; rintro e w8 ⟨rfl, hb8⟩; refine Hid.out ?_)
      refine Nu.hid ?_
      have hB8 : Below V.heap.size V w8 := HB7.out.trans (hb8.mono HB7.out.size)
      have hb68 : Below w6.heap.size w6 w8 := HB67.out.trans (hb8.mono HB67.out.size)
      have HOB8 := Nu.hid (HOB.out.later hb8)
      have HSB := Nu.hid (same_own _ _ _ _ _ w8 HOB8.out (HK.out w8 hB8).1.back (by omega))
      have HB8 := Nu.hid hB8
      have HB68 := Nu.hid hb68
      clear hb8 hB8 hb68 HSM
      go_wp2_with (go_at_call 12; refine HSB.out.mono ?_; rintro e w9 ⟨rfl, hb9⟩; refine Hid.out ?_)
      refine Nu.hid ?_
      have hB9 : Below V.heap.size V w9 := HB8.out.trans (hb9.mono HB8.out.size)
      have hb69 : Below w6.heap.size w6 w9 := HB68.out.trans (hb9.mono HB68.out.size)
      have HOB9 := Nu.hid (HOB8.out.later hb9)
      have HB9 := Nu.hid hB9
      have HB69 := Nu.hid hb69
      have hs9 := hb69.size
      obtain ⟨n1', n2', n3', n4', ⟨y0, y1, y2, y3⟩, hR9⟩ := HNEW.out w9 hb69
      clear hb9 hB9 hb69 HSB n1' n2' n3' n4' hR9 t1 t2
      have HFOUR : Hid (Four w9 V.heap.size (.slice uo L.length uc) vs (.slice p1 kk1 q1) (.slice p2 kk2 q2) (.slice p3 kk3 q3) (.slice pb kb qb) A1' A2' A3' (zs rl')) := by
        obtain ⟨n1', n2', n3', n4', -, hR9⟩ := HNEW.out w9 HB69.out
        obtain ⟨z1, z2, z3, z4⟩ := HLT5.out
        have hob := HOB9.out
        have hRw : ∀ b, ((Value.slice uo L.length uc).ownBlock = some b ∨ inV vs b) → b < wr.heap.size := fun b hb => (HR.out.within hb).2
        refine Nu.hid ⟨n1'.lower (by omega), n2'.lower (by omega), n3'.lower (by omega), hob.lower (by omega), fun b hb => (z1 b hb).2.2.2.1, fun b hb => (z1 b hb).2.2.2.2, fun b hb hb' => ?_, fun b hb => (z2 b hb).2.2.2, fun b hb hb' => ?_, fun b hb hb' => ?_, fun y hy b hb hb' => ?_⟩
        · have := (z1 b hb).2.1; have := (hob.lt hb').1; omega
        · have := (z2 b hb).2.1; have := (hob.lt hb').1; omega
        · have := (z3 b hb).2.1; have := (hob.lt hb').1; omega
        · have h1 := hRw b hb'
          simp only [List.mem_cons, List.not_mem_nil, or_false] at hy
          rcases hy with rfl | rfl | rfl | rfl
          · have := (z1 b hb).1; omega
          · have := (z2 b hb).1; omega
          · have := (z3 b hb).1; omega
          · have := (hob.lt hb).1; omega
      have HR9 : Hid (∀ U, Below w9.heap.size w9 U → RowsZ U V.heap.size (.slice uo L.length uc) vs L ∧ Four U V.heap.size (.slice uo L.length uc) vs (.slice p1 kk1 q1) (.slice p2 kk2 q2) (.slice p3 kk3 q3) (.slice pb kb qb) A1' A2' A3' (zs rl') ∧ V.heap.size ≤ U.heap.size ∧ (U.cell? ⟨w5.heap.size, 0, none⟩ = some (.slice p1 kk1 q1) ∧ U.cell? ⟨w5.heap.size, 1, none⟩ = some (.slice p2 kk2 q2) ∧ U.cell? ⟨w5.heap.size, 2, none⟩ = some (.slice p3 kk3 q3) ∧ U.cell? ⟨w5.heap.size, 3, none⟩ = some (.slice p4 ls'.length q4))) := fun U hU => by
        have h6U := HB69.out.trans (hU.mono HB69.out.size)
        obtain ⟨-, -, -, -, hy, hR9⟩ := HNEW.out U h6U
        exact ⟨hR9, HFOUR.out.later hU, by have := hU.size; omega, hy⟩
      have hLb : (L.length + 4) * 24 ≤ 140737488355328 := by have h1 := HLN.out; have h2 := HK6.out; omega
      have hone4 : ∀ u ∈ [Value.slice p1 kk1 q1, .slice p2 kk2 q2, .slice p3 kk3 q3, .slice pb kb qb], u.oneCell' = true := fun u hu => by
        simp only [List.mem_cons, List.not_mem_nil, or_false] at hu
        rcases hu with rfl | rfl | rfl | rfl <;> rfl
      have HONE := Nu.hid hone4
      have HLB := Nu.hid hLb
      -- behind the first append
      have HAFT : Hid (∀ (X : World) (v' : Value) (w10 : World), Below w9.heap.size w9 X → RowsZ w10 V.heap.size v' (vs ++ [.slice p1 kk1 q1, .slice p2 kk2 q2, .slice p3 kk3 q3, .slice pb kb qb]) (L ++ [A1', A2', A3', zs rl']) → X.grownBy w10 (Value.slice uo L.length uc).ownBlock → (v'.ownBlock = (Value.slice uo L.length uc).ownBlock ∨ v'.ownBlock = some X.heap.size) →
          RowsZ w10 B2 (.slice p4 ls'.length q4) vo ls' ∧ (∀ b, inV vo b → ¬ (v'.ownBlock = some b ∨ inV (vs ++ [.slice p1 kk1 q1, .slice p2 kk2 q2, .slice p3 kk3 q3, .slice pb kb qb]) b)) ∧ (w10.cell? ⟨w5.heap.size, 0, none⟩ = some (.slice p1 kk1 q1) ∧ w10.cell? ⟨w5.heap.size, 1, none⟩ = some (.slice p2 kk2 q2) ∧ w10.cell? ⟨w5.heap.size, 2, none⟩ = some (.slice p3 kk3 q3) ∧ w10.cell? ⟨w5.heap.size, 3, none⟩ = some (.slice p4 ls'.length q4)) ∧ V.heap.size ≤ w10.heap.size ∧ Below V.heap.size V w10 ∧ V.heap.size ≤ B2 ∧ ∀ w11, w10.grownBy w11 v'.ownBlock → (w11.cell? ⟨w5.heap.size, 0, none⟩ = some (.slice p1 kk1 q1) ∧ w11.cell? ⟨w5.heap.size, 1, none⟩ = some (.slice p2 kk2 q2) ∧ w11.cell? ⟨w5.heap.size, 2, none⟩ = some (.slice p3 kk3 q3) ∧ w11.cell? ⟨w5.heap.size, 3, none⟩ = some (.slice p4 ls'.length q4)) ∧ Below V.heap.size V w11) := fun X v' w10 hbX r1 r2 r3 => by
        have h6X := HB69.out.trans (hbX.mono HB69.out.size)
        obtain ⟨-, -, -, n4', hy, -⟩ := HNEW.out _ h6X
        obtain ⟨z1, z2, z3, z4⟩ := HLT5.out
        have hob := HOB9.out
        have hRw : ∀ b, ((Value.slice uo L.length uc).ownBlock = some b ∨ inV vs b) → b < wr.heap.size := fun b hb => (HR.out.within hb).2
        have hB2w := HB2.out.1
        have hXsz := hbX.size
        have hblk : ∀ b, wr.heap.size ≤ b → b < X.heap.size → w10.heap[b]? = X.heap[b]? := fun b h1 h2 => r2.block b h2 (fun e => by have := hRw b (.inl e.symm); omega)
        have hcel : (w10.cell? ⟨w5.heap.size, 0, none⟩ = some (.slice p1 kk1 q1) ∧ w10.cell? ⟨w5.heap.size, 1, none⟩ = some (.slice p2 kk2 q2) ∧ w10.cell? ⟨w5.heap.size, 2, none⟩ = some (.slice p3 kk3 q3) ∧ w10.cell? ⟨w5.heap.size, 3, none⟩ = some (.slice p4 ls'.length q4)) := by
          have hc : ∀ {i : Nat} {v : Value}, X.cell? ⟨w5.heap.size, i, none⟩ = some v → w10.cell? ⟨w5.heap.size, i, none⟩ = some v := fun {i v} h => by
            have e := hblk w5.heap.size (by omega) (by omega)
            simp only [World.cell?] at h ⊢
            rw [e]
            exact h
          exact ⟨hc hy.1, hc hy.2.1, hc hy.2.2.1, hc hy.2.2.2⟩
        have hbel10 : Below V.heap.size V w10 := (HB9.out.trans (hbX.mono HB9.out.size)).grown r2 (by omega) (fun b hb => (HR.out.within (.inl hb)).1)
        have hsz10 := r2.size
        refine ⟨n4'.kept (fun b hb hlt => hblk b (by have := (z4 b hb).1; omega) hlt), fun b hb hb' => ?_, hcel, by omega, hbel10, by omega, fun w11 hg => ⟨?_, ?_⟩⟩
        · have h1 := z4 b (.inr hb)
          rcases hb' with hb' | ⟨u, y, hy', hyb⟩
          · rcases r3 with e | e
            · rw [e] at hb'
              have := hRw b (.inl hb')
              omega
            · rw [e] at hb'
              have := Option.some.inj hb'
              omega
          · by_cases hu : u < vs.length
            · rw [List.getElem?_append_left hu] at hy'
              have := hRw b (.inr ⟨u, y, hy', hyb⟩)
              omega
            · rw [List.getElem?_append_right (by omega)] at hy'
              have hm := List.mem_of_getElem? hy'
              simp only [List.mem_cons, List.not_mem_nil, or_false] at hm
              rcases hm with rfl | rfl | rfl | rfl
              · have := (z1 b hyb).2.2.1; omega
              · have := (z2 b hyb).2.2.1; omega
              · have := (z3 b hyb).2.2; omega
              · have := (hob.lt hyb).1; omega
        · have hne : v'.ownBlock ≠ some w5.heap.size := fun e => by
            rcases r3 with e3 | e3
            · rw [e3] at e
              have := hRw _ (.inl e)
              omega
            · rw [e3] at e
              have := Option.some.inj e
              omega
          have hc : ∀ {i : Nat} {v : Value}, w10.cell? ⟨w5.heap.size, i, none⟩ = some v → w11.cell? ⟨w5.heap.size, i, none⟩ = some v := fun {i v} h => by
            have e := hg.block w5.heap.size (by omega) (fun e => hne e.symm)
            simp only [World.cell?] at h ⊢
            rw [e]
            exact h
          exact ⟨hc hcel.1, hc hcel.2.1, hc hcel.2.2.1, hc hcel.2.2.2⟩
        · exact hbel10.grown hg (by omega) (fun b hb => (World.ownsRow.lt r1.outer b hb).1)
      have HLB2 : Hid ((L ++ [A1', A2', A3', zs rl']).length + ls'.length ≤ (k + 1) * 8388612 ∧ ∀ l ∈ (L ++ [A1', A2', A3', zs rl']) ++ ls', l.length ≤ 8388608) := by
        refine Nu.hid ⟨?_, fun l hl => ?_⟩
        · have h1 := HLN.out
          rw [List.length_append]
          simp only [List.length_cons, List.length_nil]
          omega
        · rcases List.mem_append.1 hl with hl | hl
          · rcases List.mem_append.1 hl with hl | hl
            · exact HLL.out l hl
            · simp only [List.mem_cons, List.not_mem_nil, or_false] at hl
              rcases hl with rfl | rfl | rfl | rfl
              · exact nn1
              · exact nn2
              · exact nn3
              · exact nn6
          · exact nn5 l hl
      clear hone4 hLb
      go_wp2_with fail
      go_region_held3 (fun U => U.cell? ⟨w5.heap.size, 0, none⟩ = some (.slice p1 kk1 q1) ∧ U.cell? ⟨w5.heap.size, 1, none⟩ = some (.slice p2 kk2 q2) ∧ U.cell? ⟨w5.heap.size, 2, none⟩ = some (.slice p3 kk3 q3) ∧ U.cell? ⟨w5.heap.size, 3, none⟩ = some (.slice p4 ls'.length q4))
        (first | exact ⟨y0, y1, y2, y3⟩ | exact hS10 | exact hS11 | exact (HR9.out _ (by repeat (first | exact Below.refl _ _ | refine Below.drew ?_ | refine Below.alloc ?_ (by first | (simp; done) | (simp; omega)) _))).2.2.2)
        (first
          | (rw [if_pos (by rfl)]; refine wp_push4 _ _ (by rfl) _ _ L (HR9.out _ (by repeat (first | exact Below.refl _ _ | refine Below.drew ?_ | refine Below.alloc ?_ (by first | (simp; done) | (simp; omega)) _))).1 (HR9.out _ (by repeat (first | exact Below.refl _ _ | refine Below.drew ?_ | refine Below.alloc ?_ (by first | (simp; done) | (simp; omega)) _))).2.2.1 (by rfl) (by rfl) (by exact heap_alloc_new w9 _) (HR9.out _ (by repeat (first | exact Below.refl _ _ | refine Below.drew ?_ | refine Below.alloc ?_ (by first | (simp; done) | (simp; omega)) _))).2.1 HONE.out HLB.out ?_; intro v10 w10 r1 r2 r3; obtain ⟨vo10, vc10, hv10⟩ := row_shape r1; subst hv10; obtain ⟨hRo10, hdis10, hS10, hV10, hb10, hB210, hn10⟩ := HAFT.out _ _ w10 (by repeat (first | exact Below.refl _ _ | refine Below.drew ?_ | refine Below.alloc ?_ (by first | (simp; done) | (simp; omega)) _)) r1 r2 r3)
          | (rw [if_pos (by rfl)]; refine wp_pushR _ _ (by rfl) _ r1 hV10 (by rfl) B2 p4 q4 vo ls' (by rfl) HB2.out.2 hRo10 hB210 hdis10 (by have h1 := HLB2.out.1; have h2 := HK6.out; omega) ?_; intro v11 w11 s1 s2 s3; obtain ⟨hS11, hb11⟩ := hn10 w11 s2))
      have HS1 := Nu.hid s1
      have HB11 := Nu.hid hb11
      clear r1 r2 r3 s1 s2 s3 hRo10 hdis10 hS10 hV10 hb10 hB210 hn10 hS11 hb11 y0 y1 y2 y3
      go_wp2
      go_roundw
      case rel => exact ⟨k + 1, _, _, HK6.out, by go_num, HS1.out, by rw [List.length_append]; exact HLB2.out.1, HLB2.out.2, HB11.out⟩
      case measure => have := HK6.out; simp [intOf]; omega
    · have hk6' : ¬ (k : Int) < 6 := by omega
      have hap := apart_any (.slice uo L.length uc) vs L V.heap.size wr hR hsr (by omega) hLl
      have HAP := Nu.hid hap
      have HWB : Hid (∀ U, Wrote (inV vs) wr U → Below V.heap.size V U) := fun U hU => HB.out.trans (hU.below hsr (fun b hb => (HR.out.within (.inr hb)).1))
      clear hap hR hLn hLl hb hk
      go_wp2_with (go_at_call 13; refine HAP.out.mono ?_; rintro e w10 ⟨rfl, hw10⟩; refine Hid.out ?_)
      refine Nu.hid ?_
      have hB10 := HWB.out w10 hw10
      have HB10 := Nu.hid hB10
      have hs10 := hw10.size
      obtain ⟨hm10, -⟩ := HK.out w10 hB10
      have HC1 := Nu.hid (same_true hm10.lm.l1 hm10.lf.l1 hm10.lf.n1)
      obtain ⟨g0, g1, f0, f1, f2, f3, l0, l1, l2, l3, h0, h1, m0, m1, m2, m3, hlt10, -, -, -, -, -, -⟩ := hm10
      clear hw10 hB10 HAP HWB
      go_wp2_with (go_at_call 12; refine HC1.out.mono ?_; rintro e w11 ⟨rfl, hb11⟩; refine Hid.out ?_)
      refine Nu.hid ?_
      have hB11 : Below V.heap.size V w11 := HB10.out.trans (hb11.mono HB10.out.size)
      have HB11 := Nu.hid hB11
      obtain ⟨hm11, -⟩ := HK.out w11 hB11
      have HC2 := Nu.hid (same_true hm11.lm.l2 hm11.lf.l2 hm11.lf.n2)
      clear g0 g1 f0 f1 f2 f3 l0 l1 l2 l3 h0 h1 m0 m1 m2 m3
      obtain ⟨g0, g1, f0, f1, f2, f3, l0, l1, l2, l3, h0, h1, m0, m1, m2, m3, hlt11, -, -, -, -, -, -⟩ := hm11
      clear hb11 hB11
      go_wp2_with (go_at_call 12; refine HC2.out.mono ?_; rintro e w12 ⟨rfl, hb12⟩; refine Hid.out ?_)
      refine Nu.hid ?_
      have hB12 : Below V.heap.size V w12 := HB11.out.trans (hb12.mono HB11.out.size)
      have HB12 := Nu.hid hB12
      obtain ⟨hm12, -⟩ := HK.out w12 hB12
      have HC3 := Nu.hid (same_true hm12.lm.l3 hm12.lf.l3 hm12.lf.n3)
      clear g0 g1 f0 f1 f2 f3 l0 l1 l2 l3 h0 h1 m0 m1 m2 m3
      obtain ⟨g0, g1, f0, f1, f2, f3, l0, l1, l2, l3, h0, h1, m0, m1, m2, m3, hlt12, -, -, -, -, -, -⟩ := hm12
      clear hb12 hB12
      go_wp2_with (go_at_call 12; refine HC3.out.mono ?_; rintro e w13 ⟨rfl, hb13⟩; refine Hid.out ?_)
      refine Nu.hid ?_
      have hB13 : Below V.heap.size V w13 := HB12.out.trans (hb13.mono HB12.out.size)
      have HB13 := Nu.hid hB13
      obtain ⟨hm13, -⟩ := HK.out w13 hB13
      have HC4 := Nu.hid (same_true hm13.lm.l4 hm13.lf.l4 hm13.lf.n4)
      clear g0 g1 f0 f1 f2 f3 l0 l1 l2 l3 h0 h1 m0 m1 m2 m3
      obtain ⟨g0, g1, f0, f1, f2, f3, l0, l1, l2, l3, h0, h1, m0, m1, m2, m3, hlt13, -, -, -, -, -, -⟩ := hm13
      clear hb13 hB13
      go_wp2_with (go_at_call 12; refine HC4.out.mono ?_; rintro e w14 ⟨rfl, hb14⟩; refine Hid.out ?_)
      refine Nu.hid ?_
      have hB14 : Below V.heap.size V w14 := HB13.out.trans (hb14.mono HB13.out.size)
      have HB14 := Nu.hid hB14
      clear g0 g1 f0 f1 f2 f3 l0 l1 l2 l3 h0 h1 m0 m1 m2 m3
      obtain ⟨g0, g1, f0, f1, f2, f3, l0, l1, l2, l3, h0, h1, m0, m1, m2, m3, hlt14, -, -, -, -, -, -⟩ := (HK.out w14 hB14).1
      clear hb14 hB14 f0 f1 f2 f3 l0 l1 l2 l3 m0 m1 m2 m3
      go_wp2
      clear g0 g1 h0 h1
      go_loopw [147] (fun cv wt => ∃ i : Nat, i ≤ es.length ∧ cv = .int .i64 (i : Int) ∧ Below V.heap.size V wt) (fun cv _ => es.length - (intOf cv).toNat)
      case atStart => exact ⟨0, Nat.zero_le _, rfl, HB14.out⟩
      case round =>
        obtain ⟨i, hi, rfl, hbi⟩ := hrel
        have HBI := Nu.hid hbi
        obtain ⟨hmi, hbw⟩ := HK.out wr hbi
        have HBW := Nu.hid hbw
        by_cases hlt : i < es.length
        · have hlti : (i : Int) < (es.length : Int) := by omega
          have hi0 : (0 : Int) ≤ (i : Int) := by omega
          obtain ⟨q, hq⟩ : ∃ q, es[i]? = some q := ⟨_, List.getElem?_eq_getElem hlt⟩
          obtain ⟨bg, og, rfl, cg0, cg1⟩ := hmi.eg i q hq
          obtain ⟨bh, oh, eqh, ch0, ch1⟩ := hmi.eh i q hq
          cases eqh
          obtain ⟨g0, g1, -, -, -, -, -, -, -, -, h0, h1, -, -, -, -, hlti', -, -, -, -, -, -⟩ := hmi
          obtain ⟨qa, qb⟩ := q
          dsimp only at cg0 cg1 ch0 ch1
          rw [Nat.zero_add] at ch0 ch1
          have eqP := eqEdge
          have t1 : (qa == qa && qb == qb) = true := by simp
          have HLT := Nu.hid hlt
          have hcg := block_lt_of_cell cg0
          have hch := block_lt_of_cell ch0
          clear hbi hbw hlt hi hq
          go_wp2_with fail
          go_quiet (fail)
          clear eqP
          go_wp2
          go_roundw
          case rel => exact ⟨i + 1, HLT.out, by go_num, below_drewN HBI.out _⟩
          case measure => have := HLT.out; simp [intOf]; omega
        · have hd : ¬ (i : Int) < (es.length : Int) := by omega
          clear hbi hbw hlt hi hmi
          go_wp2
          go_ret
          exact ⟨rfl, HBW.out⟩

end
end lawLMem
end Go.Proofs.YtmgoahbloppdmaaGreat
