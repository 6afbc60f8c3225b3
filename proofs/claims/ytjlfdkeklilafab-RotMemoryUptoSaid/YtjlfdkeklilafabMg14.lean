import Derived.Test.YtjlfdkeklilafabMg12
import Derived.Test.YtjlfdkeklilafabMg13
import Derived.Test.YtjlfdkeklilafabMg08
import Derived.Test.YtjlfdkeklilafabMg06
import Derived.Deep.RegionHeld3
import Derived.Test.YtjlfdkeklilafabMg04
import Derived.Laws.CopyOwn
import Derived.Deep.RegionLaw
/-
  The law RotMemory: what stands while the rounds are gone; behind the rounds: Apart, and the two reading loops.
-/
namespace Go.Proofs.Ytjlfdkeklilafab
open Go.ChangeShapes Go.WideShapes Go.ChangeAt Go.RowKit
namespace lawRM

/-- What is left of a code behind its first n statements. -/
def spine : Nat → Code → Code
  | 0, c => c
  | n + 1, .seq _ d => spine n d
  | _ + 1, c => c

/-- What stands: the boxes g and h and their edges; r; mine and whole; want. -/
structure Mem (G0 H B gM cM : Nat) (n : Int) (ao : Option Addr) (ca : Nat) (es : List (Int × Int)) (xo : Option Addr) (ls : List (List Int)) (mo : Option Addr) (mc : Nat) (ms : List Value) (wo : Option Addr) (qw wc : Nat) (ws : List Value) (U : World) : Prop where
  g0 : U.cell? ⟨G0, 0, none⟩ = some (.int .i64 n)
  g1 : U.cell? ⟨G0, 1, none⟩ = some (.slice ao es.length ca)
  h0 : U.cell? ⟨H, 0, none⟩ = some (.int .i64 n)
  h1 : U.cell? ⟨H, 1, none⟩ = some (.slice (some ⟨gM, 0, none⟩) es.length cM)
  lt : G0 < U.heap.size ∧ H < U.heap.size
  eg : EdgesAt U ao es
  eh : EdgesAt U (some ⟨gM, 0, none⟩) es
  rows : RwsAt U xo ls
  mine : RowsZ U B (.slice mo ls.length mc) ms ls
  whole : RowsZ U B (.slice wo qw wc) ws (ls.map (· ++ [-71, -72]))

section
variable {G0 H B gM cM : Nat} {n : Int} {ao : Option Addr} {ca : Nat} {es : List (Int × Int)} {xo : Option Addr} {ls : List (List Int)} {mo : Option Addr} {mc : Nat} {ms : List Value} {wo : Option Addr} {qw wc : Nat} {ws : List Value} {U U' w V wr : World} {xc : Nat}

theorem Mem.later (h : Mem G0 H B gM cM n ao ca es xo ls mo mc ms wo qw wc ws U) (hb : Below U.heap.size U U') : Mem G0 H B gM cM n ao ca es xo ls mo mc ms wo qw wc ws U' := by
  obtain ⟨y1, y2⟩ := h.lt
  have hs := hb.size
  have c : ∀ {k i : Nat} {v : Value}, k < U.heap.size → U.cell? ⟨k, i, none⟩ = some v → U'.cell? ⟨k, i, none⟩ = some v := fun {k i v} hk hv => (hb.cell (p := ⟨k, i, none⟩) hk).trans hv
  exact ⟨c y1 h.g0, c y1 h.g1, c y2 h.h0, c y2 h.h1, ⟨by omega, by omega⟩, h.eg.later hb, h.eh.later hb, h.rows.later hb, h.mine.later hb, h.whole.later hb⟩

set_option maxRecDepth 100000 in
set_option maxHeartbeats 16000000 in
theorem ends {t0 t3 t4 t8 t9 t10 t11 t12 t14 t15 t16 t17 t18 t19 t20 t21 t22 t23 t24 t25 t26 t27 t28 t29 t30 t31 t32 t33 t34 t35 t36 t37 t38 t39 t40 t41 t42 t43 t44 t45 t46 t47 t48 t49 t50 t51 t52 t53 t54 t55 t56 t57 t58 t59 t60 t61 t62 t63 t64 t65 t66 t67 t68 t69 t70 t71 t72 t73 t74 t75 t76 t77 t78 t79 t80 t81 t82 t83 t84 t85 t86 t87 t88 t89 t90 t91 t92 t93 t94 t95 t96 t97 t98 t99 t100 t101 t102 t103 t104 t105 t106 t107 t108 t109 t110 t111 t112 t113 t114 t115 t116 t117 t118 t119 t120 t121 t122 t123 t124 t125 t126 t127 t128 t129 t130 t131 t132 t133 t134 t135 t136 t137 t138 t139 t140 t141 t142 t143 t144 t145 t146 t147 t148 t149 t150 t151 t152 t153 t154 t155 t156 t157 t158 t159 t160 t161 t162 t163 t164 t165 t166 t167 t168 t169 t170 t171 t172 t173 t174 t175 t176 t177 t178 t179 t180 t181 t182 t183 t184 t185 t186 t187 t188 : Value} {uo : Option Addr} {ql uc : Nat} {vs : List Value} {L : List (List Int)} (hM : Mem G0 H B gM cM n ao ca es xo ls mo mc ms wo qw wc ws V) (hl : es.length * 16 ≤ 140737488351232) (hN : ls.length ≤ 1048576) (hll : ∀ l ∈ ls, l.length ≤ 1048576) (hbel : Below w.heap.size w V)
    (hR : RowsZ wr V.heap.size (.slice uo ql uc) vs L) (hLn : L.length ≤ 100000000) (hLl : ∀ l ∈ L, l.length ≤ 8388608) (hb : Below V.heap.size V wr) :
    Code.wp Try.prog (spine 9 (Try.f4.body.getD .skip)) (bodyPost Try.prog Try.f4 fun e w' => e = .returned (.bool true) ∧ Below w.heap.size w w') { tmps := #[t0, .slice xo ls.length xc, .pointer (some ⟨G0, 0, none⟩), t3, t4, .pointer (some ⟨H, 0, none⟩), .slice mo ls.length mc, .slice wo qw wc, t8, t9, t10, t11, t12, .slice uo ql uc, t14, t15, t16, t17, t18, t19, t20, t21, t22, t23, t24, t25, t26, t27, t28, t29, t30, t31, t32, t33, t34, t35, t36, t37, t38, t39, t40, t41, t42, t43, t44, t45, t46, t47, t48, t49, t50, t51, t52, t53, t54, t55, t56, t57, t58, t59, t60, t61, t62, t63, t64, t65, t66, t67, t68, t69, t70, t71, t72, t73, t74, t75, t76, t77, t78, t79, t80, t81, t82, t83, t84, t85, t86, t87, t88, t89, t90, t91, t92, t93, t94, t95, t96, t97, t98, t99, t100, t101, t102, t103, t104, t105, t106, t107, t108, t109, t110, t111, t112, t113, t114, t115, t116, t117, t118, t119, t120, t121, t122, t123, t124, t125, t126, t127, t128, t129, t130, t131, t132, t133, t134, t135, t136, t137, t138, t139, t140, t141, t142, t143, t144, t145, t146, t147, t148, t149, t150, t151, t152, t153, t154, t155, t156, t157, t158, t159, t160, t161, t162, t163, t164, t165, t166, t167, t168, t169, t170, t171, t172, t173, t174, t175, t176, t177, t178, t179, t180, t181, t182, t183, t184, t185, t186, t187, t188], defers := [] } wr := by
  have HK : Hid (∀ U, Below V.heap.size V U → Mem G0 H B gM cM n ao ca es xo ls mo mc ms wo qw wc ws U ∧ Below w.heap.size w U) := fun U hU => ⟨hM.later hU, hbel.trans (hU.mono hbel.size)⟩
  have hsr := hb.size
  have hlen : es.length ≤ 8796093021952 := by omega
  have HAP := Nu.hid (apart_any (.slice uo ql uc) vs L V.heap.size wr hR hsr hLn hLl)
  have HWB : Hid (∀ U, Wrote (inV vs) wr U → Below V.heap.size V U) := fun U hU => hb.trans (hU.below hsr (fun b hb => (hR.within (.inr hb)).1))
  have HLL := Nu.hid hll
  clear hM hbel hR hLn hLl hb hll hl
  simp only [Try.f4, Option.getD, spine]
  go_wp2_with (go_at_call 17; refine HAP.out.mono ?_; rintro e w10 ⟨rfl, hw10⟩; refine Hid.out ?_)
  refine Nu.hid ?_
  have hB10 := HWB.out w10 hw10
  have HB10 := Nu.hid hB10
  obtain ⟨g0, g1, h0, h1, hlt10, -, -, -, -, -⟩ := (HK.out w10 hB10).1
  clear hw10 hB10 HAP HWB h0 h1
  go_wp2
  clear g0 g1
  go_loopw [136] (fun cv wt => ∃ i : Nat, i ≤ es.length ∧ cv = .int .i64 (i : Int) ∧ Below V.heap.size V wt) (fun cv _ => es.length - (intOf cv).toNat)
  case atStart => exact ⟨0, Nat.zero_le _, rfl, HB10.out⟩
  case round =>
    obtain ⟨i, hi, rfl, hbi⟩ := hrel
    have HBI := Nu.hid hbi
    obtain ⟨hmi, hbw⟩ := HK.out wr hbi
    by_cases hlt : i < es.length
    · have hlti : (i : Int) < (es.length : Int) := by omega
      have hi0 : (0 : Int) ≤ (i : Int) := by omega
      obtain ⟨q, hq⟩ : ∃ q, es[i]? = some q := ⟨_, List.getElem?_eq_getElem hlt⟩
      obtain ⟨bg, og, rfl, cg0, cg1⟩ := hmi.eg i q hq
      obtain ⟨bh, oh, eqh, ch0, ch1⟩ := hmi.eh i q hq
      cases eqh
      obtain ⟨g0, g1, h0, h1, hlti', -, -, -, -, -⟩ := hmi
      obtain ⟨qa, qb⟩ := q
      dsimp only at cg0 cg1 ch0 ch1
      rw [Nat.zero_add] at ch0 ch1
      have eqP := eqEdge
      have t1 : (qa == qa && qb == qb) = true := by simp
      have HLT := Nu.hid hlt
      have hcg := block_lt_of_cell cg0
      have hch := block_lt_of_cell ch0
      clear hbi hbw hlt hi hq
      go_wp2_with fail
      go_quiet (fail)
      clear eqP
      go_wp2
      go_roundw
      case rel => exact ⟨i + 1, HLT.out, by go_num, below_drewN HBI.out _⟩
      case measure => have := HLT.out; simp [intOf]; omega
    · have hd : ¬ (i : Int) < (es.length : Int) := by omega
      clear hbi hbw hlt hi hmi
      go_wp2
      go_loopw [153] (fun cv wt => ∃ k : Nat, k ≤ ls.length ∧ cv = .int .i64 (k : Int) ∧ Below V.heap.size V wt) (fun cv _ => ls.length - (intOf cv).toNat)
      case atStart => exact ⟨0, Nat.zero_le _, rfl, HBI.out⟩
      case round =>
        obtain ⟨k, hk, rfl, hbk⟩ := hrel
        obtain ⟨W0, rfl⟩ : ∃ W0, W0 = wr := ⟨_, rfl⟩
        have HBK := Nu.hid hbk
        obtain ⟨hmk, hbw⟩ := HK.out W0 hbk
        have HBW := Nu.hid hbw
        by_cases hlt : k < ls.length
        · have hlti : (k : Int) < (ls.length : Int) := by omega
          have hk0 : (0 : Int) ≤ (k : Int) := by omega
          obtain ⟨l, hlk⟩ : ∃ l, ls[k]? = some l := ⟨_, List.getElem?_eq_getElem hlt⟩
          have hlb : l.length ≤ 1048576 := HLL.out l (List.mem_of_getElem? hlk)
          obtain ⟨b, o, A, C, rfl, hcell, hL, hln, hC, hC2⟩ := hmk.rows k l hlk
          -- mine's list
          obtain ⟨x, hx⟩ := hmk.mine.at' hlk
          obtain ⟨xo', xc', rfl, hxa, -⟩ := (hmk.mine.row k x l hx hlk).form
          obtain ⟨g, c, e, hcm⟩ := row_at hmk.mine hx
          cases e
          -- whole's list
          have hlk2 : (ls.map (· ++ [-71, -72]))[k]? = some (l ++ [-71, -72]) := by rw [List.getElem?_map, hlk]; rfl
          obtain ⟨y, hy⟩ := hmk.whole.at' hlk2
          have hown := hmk.whole.row k y _ hy hlk2
          obtain ⟨g2, c2, e2, hcw⟩ := row_at hmk.whole hy
          cases e2
          obtain ⟨p, hp⟩ : ∃ p, p = l.length := ⟨_, rfl⟩
          obtain ⟨p2, hp2⟩ : ∃ p2, p2 = p + 2 := ⟨_, rfl⟩
          obtain ⟨g5, c5, rfl⟩ : ∃ g c, y = .slice (some ⟨g, 0, none⟩) p2 c := by
            have e : (l ++ [-71, -72]).length = p2 := by rw [hp2, hp]; simp
            have h5 := hown
            unfold OwnZ at h5
            rw [e, hp2] at h5
            obtain ⟨g, c, rfl⟩ := own_succ h5
            exact ⟨g, c, by rw [hp2]⟩
          have hw0 := OwnZ.cellAt hown (i := p) (x := -71) (by rw [hp]; simp)
          have hw1 := OwnZ.cellAt hown (i := p + 1) (x := -72) (by rw [hp]; simp)
          have HAL : Hid (∀ U, Below W0.heap.size W0 U → Calls Try.prog 18 #[.slice xo' p xc', .slice A p C] U fun e w' => e = .returned (.bool true) ∧ Below U.heap.size U w') := fun U hU => by
            rw [hp]
            refine (alike_any xo' A xc' C l.length l.length l l U rfl rfl (hxa.later hU) ((hL.later hU).ints) (by omega)).mono ?_
            rintro e w' ⟨h1, h2⟩
            exact ⟨by rw [h1]; simp, h2⟩
          have HAFT : Hid (∀ U, Below W0.heap.size W0 U → U.cell? ⟨g2, k, none⟩ = some (.slice (some ⟨g5, 0, none⟩) p2 c5) ∧ U.cell? ⟨g5, p, none⟩ = some (.int .i64 (-71)) ∧ U.cell? ⟨g5, p + 1, none⟩ = some (.int .i64 (-72))) := fun U hU => by
            exact ⟨(hU.cell (p := ⟨g2, k, none⟩) (block_lt_of_cell hcw)).trans hcw, (hU.cell (p := ⟨g5, p, none⟩) (block_lt_of_cell hw0)).trans hw0, (hU.cell (p := ⟨g5, p + 1, none⟩) (block_lt_of_cell hw1)).trans hw1⟩
          rw [← hp] at hcell hcm
          have hwp : IntKind.i64.wrap ((p : Int) + 1) = (p : Int) + 1 := by rw [IntKind.wrap_i64]; omega
          have i0 : (0 : Int) ≤ (p : Int) := by omega
          have i1 : (p : Int) < (p2 : Int) := by omega
          have i2 : (0 : Int) ≤ (p : Int) + 1 := by omega
          have i3 : (p : Int) + 1 < (p2 : Int) := by omega
          have hkq : (k : Int) < ((ls.map (· ++ [-71, -72])).length : Int) := by rw [List.length_map]; omega
          obtain ⟨qw, hqw⟩ : ∃ q, q = (ls.map (· ++ [-71, -72])).length := ⟨_, rfl⟩
          rw [← hqw] at hkq ⊢
          have HLT := Nu.hid hlt
          have t1 : ((-71 : Int) != -71) = false := by decide
          have t2 : ((-72 : Int) != -72) = false := by decide
          clear hbk hbw hlt hk hmk hlk hlk2 hx hy hown hL hxa hw0 hw1 hcw hln hC hC2 hqw hp2 hp hlb
          go_wp2_with (go_at_call 18; refine (HAL.out _ (by repeat (first | exact Below.refl _ _ | refine Below.drew ?_))).mono ?_; rintro e w12 ⟨rfl, hb12⟩; refine Hid.out ?_)
          refine Nu.hid ?_
          obtain ⟨d0, d1, d2⟩ := HAFT.out w12 hb12
          have hB12 : Below V.heap.size V w12 := HBK.out.trans (hb12.mono HBK.out.size)
          have HB12 := Nu.hid hB12
          clear hb12 hB12 hcell hcm
          go_wp2
          go_roundw
          case rel => exact ⟨k + 1, HLT.out, by go_num, HB12.out⟩
          case measure => have := HLT.out; simp [intOf]; omega
        · have hd2 : ¬ (k : Int) < (ls.length : Int) := by omega
          clear hbk hbw hlt hk hmk
          go_wp2
          go_ret
          exact ⟨rfl, HBW.out⟩
end
end lawRM
end Go.Proofs.Ytjlfdkeklilafab

/-
  The finder, pure: chains of half-edges that leave a vertex; what was told last to lead where.
-/
namespace Go.Proofs.Ytjlfdkeklilafab
namespace Ro

/-- The last half-edge below k that leaves v, or -1. -/
def lo (es : List (Int × Int)) (v : Nat) : Nat → Int
  | 0 => -1
  | k + 1 => if Cs.fr es k = v then (k : Int) else lo es v k

theorem lo_spec (es : List (Int × Int)) (v : Nat) : ∀ k, (lo es v k = -1 ∧ ∀ h, h < k → Cs.fr es h ≠ v) ∨ ∃ h : Nat, lo es v k = (h : Int) ∧ h < k ∧ Cs.fr es h = v ∧ ∀ j, h < j → j < k → Cs.fr es j ≠ v
  | 0 => .inl ⟨rfl, fun h hh => by omega⟩
  | k + 1 => by
    unfold lo
    by_cases hk : Cs.fr es k = v
    · rw [if_pos hk]
      exact .inr ⟨k, rfl, by omega, hk, fun j h1 h2 => by omega⟩
    · rw [if_neg hk]
      rcases lo_spec es v k with ⟨h1, h2⟩ | ⟨h, h1, h2, h3, h4⟩
      · refine .inl ⟨h1, fun h hh => ?_⟩
        by_cases e : h = k
        · subst e; exact hk
        · exact h2 h (by omega)
      · refine .inr ⟨h, h1, by omega, h3, fun j hj1 hj2 => ?_⟩
        by_cases e : j = k
        · subst e; exact hk
        · exact h4 j hj1 (by omega)

/-- The lists of the finder once k half-edges have been gone by. -/
structure Fi (n : Nat) (es : List (Int × Int)) (F An : List Int) (k : Nat) : Prop where
  lf : F.length = n
  la : An.length = 2 * es.length
  first : ∀ v, v < n → F[v]? = some (lo es v k)
  another : ∀ h, h < k → An[h]? = some (lo es (Cs.fr es h) h)

theorem Fi.start (n : Nat) (es : List (Int × Int)) : Fi n es (List.replicate n (-1)) (List.replicate (2 * es.length) 0) 0 :=
  ⟨by simp, by simp, fun v hv => by rw [List.getElem?_replicate, if_pos hv]; rfl, fun h hh => by omega⟩

theorem Fi.step {n : Nat} {es : List (Int × Int)} (hv : Si.Val n es) {F An : List Int} {k : Nat} (h : Fi n es F An k) (hk : k < 2 * es.length) : Fi n es (F.set (Cs.fr es k) (k : Int)) (An.set k (lo es (Cs.fr es k) k)) (k + 1) := by
  have hf := (Cs.half_lt hv hk).1
  refine ⟨by rw [List.length_set]; exact h.lf, by rw [List.length_set]; exact h.la, fun v hvn => ?_, fun j hj => ?_⟩
  · rw [List.getElem?_set]
    unfold lo
    by_cases e : Cs.fr es k = v
    · rw [if_pos e, if_pos (by rw [h.lf]; exact hf), if_pos e]
    · rw [if_neg e, if_neg e]
      exact h.first v hvn
  · rw [List.getElem?_set]
    by_cases e : k = j
    · subst e
      rw [if_pos rfl, if_pos (by rw [h.la]; exact hk)]
    · rw [if_neg e]
      exact h.another j (by omega)

/-- What leads where, once v's half-edges from k on have been told (those of the vertices below v are of no matter). -/
structure Ld (n : Nat) (es : List (Int × Int)) (v k : Nat) (D : List Int) : Prop where
  len : D.length = n
  each : ∀ x, x < n → D[x]? = some (-1) ∨ ∃ h : Nat, D[x]? = some (h : Int) ∧ h < 2 * es.length ∧ Cs.fr es h ≤ v ∧ Cs.to es h = x
  told : ∀ h, k ≤ h → h < 2 * es.length → Cs.fr es h = v → D[Cs.to es h]? = some (h : Int)

theorem Ld.start (n : Nat) (es : List (Int × Int)) : Ld n es 0 (2 * es.length) (List.replicate n (-1)) :=
  ⟨by simp, fun x hx => .inl (by rw [List.getElem?_replicate, if_pos hx]), fun h h1 h2 => by omega⟩

theorem Ld.next {n : Nat} {es : List (Int × Int)} {v k : Nat} {D : List Int} (h : Ld n es v k D) : Ld n es (v + 1) (2 * es.length) D :=
  ⟨h.len, fun x hx => by
    rcases h.each x hx with h1 | ⟨j, h1, h2, h3, h4⟩
    · exact .inl h1
    · exact .inr ⟨j, h1, h2, by omega, h4⟩, fun h h1 h2 => by omega⟩

theorem Ld.put {n : Nat} {es : List (Int × Int)} (hv : Si.Val n es) {v k h : Nat} {D : List Int} (hd : Ld n es v k D) (hk : k ≤ 2 * es.length) (hh : h < k) (hf : Cs.fr es h = v) (hno : ∀ j, h < j → j < k → Cs.fr es j ≠ v) : Ld n es v h (D.set (Cs.to es h) (h : Int)) := by
  have ht := (Cs.half_lt hv (show h < 2 * es.length by omega)).2
  refine ⟨by rw [List.length_set]; exact hd.len, fun x hx => ?_, fun j h1 h2 h3 => ?_⟩
  · rw [List.getElem?_set]
    by_cases e : Cs.to es h = x
    · rw [if_pos e, if_pos (by rw [hd.len]; exact ht)]
      exact .inr ⟨h, rfl, by omega, by omega, e⟩
    · rw [if_neg e]
      exact hd.each x hx
  · rw [List.getElem?_set]
    by_cases e : h = j
    · subst e
      rw [if_pos rfl, if_pos (by rw [hd.len]; exact ht)]
    · have hjk : k ≤ j := by
        rcases Nat.lt_or_ge j k with h4 | h4
        · exact absurd h3 (hno j (by omega) h4)
        · exact h4
      have hne : Cs.to es h ≠ Cs.to es j := fun e2 => e (half_one hv (by omega) h2 (by omega) e2)
      rw [if_neg hne]
      exact hd.told j hjk h2 h3

theorem Ld.done {n : Nat} {es : List (Int × Int)} {v k : Nat} {D : List Int} (hd : Ld n es v k D) (hno : ∀ h, h < k → Cs.fr es h ≠ v) : Ld n es v 0 D :=
  ⟨hd.len, hd.each, fun h h1 h2 h3 => by
    rcases Nat.lt_or_ge h k with h4 | h4
    · exact absurd h3 (hno h h4)
    · exact hd.told h h4 h2 h3⟩

/-- What to answers. -/
def toF (n : Nat) (D : List Int) (x : Int) : Int := if 0 ≤ x ∧ x < n then D.getD x.toNat 0 else -1

/-- What to answers leaves v just if there is a half-edge to x, and then it is that one. -/
theorem Ld.to {n : Nat} {es : List (Int × Int)} (hv : Si.Val n es) {v : Nat} {D : List Int} (hd : Ld n es v 0 D) (x : Int) :
    (lv es (toF n D x) v = true ∧ toF n D x = hl es v x ∧ ∃ h : Nat, half es v x (2 * es.length) = some h ∧ toF n D x = (h : Int)) ∨ (lv es (toF n D x) v = false ∧ lv es (hl es v x) v = false) := by
  cases e : half es v x (2 * es.length) with
  | some h =>
    left
    obtain ⟨h1, h2, h3⟩ := half_some e
    have ht := (Cs.half_lt hv h1).2
    have hD := hd.told h (Nat.zero_le _) h1 h2
    have hx : toF n D x = (h : Int) := by
      unfold toF
      rw [if_pos (by omega), show x.toNat = Cs.to es h by omega, List.getD_eq_getElem?_getD, hD]
      rfl
    obtain ⟨e1, e2, -⟩ := hl_lv e
    rw [hx]
    exact ⟨e2, e1.symm, h, rfl, rfl⟩
  | none =>
    right
    obtain ⟨e1, e2⟩ := hl_no e
    refine ⟨?_, by rw [e1]; exact e2⟩
    unfold toF
    by_cases hx : 0 ≤ x ∧ x < n
    · rw [if_pos hx]
      obtain ⟨y, rfl⟩ : ∃ y : Nat, x = (y : Int) := ⟨x.toNat, by omega⟩
      rw [Int.toNat_natCast, List.getD_eq_getElem?_getD]
      rcases hd.each y (by omega) with h1 | ⟨h, h1, h2, -, h5⟩
      · rw [h1]
        exact e2
      · rw [h1]
        show lv es (h : Int) v = false
        cases hlv : lv es (h : Int) v with
        | false => rfl
        | true =>
          obtain ⟨j, hj, hj2, hj3⟩ := lv_nat hlv
          have ej : j = h := by omega
          subst ej
          exact absurd ⟨hj3, by rw [h5]⟩ (half_none e j hj2)
    · rw [if_neg hx]
      exact e2

end Ro
end Go.Proofs.Ytjlfdkeklilafab

/-
  slices.Repeat of one int: math/bits' Mul at small numbers.
-/
namespace Go.Proofs.Ytjlfdkeklilafab
open Go.RowKit

theorem and_low (n : Nat) (hn : n < 4294967296) : bits .and .u64 (n : Int) 4294967295 = (n : Int) := by
  have h1 : (BitVec.ofInt 64 (n : Int)).toNat = n := by
    rw [BitVec.ofInt_natCast, BitVec.toNat_ofNat]; exact Nat.mod_eq_of_lt (by omega)
  have h2 : (BitVec.ofInt 64 (4294967295 : Int)).toNat = 4294967295 := by decide
  show IntKind.u64.wrap ((BitVec.ofInt 64 (n : Int) &&& BitVec.ofInt 64 (4294967295 : Int)).toNat : Int) = _
  rw [BitVec.toNat_and, h1, h2]
  have h3 : n &&& 4294967295 = n := by
    have := Nat.and_two_pow_sub_one_eq_mod n 32
    rw [show (2 ^ 32 - 1 : Nat) = 4294967295 by decide] at this
    rw [this]
    exact Nat.mod_eq_of_lt (by omega)
  rw [h3, IntKind.wrap_u64]
  omega

set_option maxRecDepth 100000 in
set_option maxHeartbeats 4000000 in
theorem mul64_any (n : Nat) (w : World) (hn : n ≤ 1048576) :
    Calls Try.prog 56 #[.int .u64 1, .int .u64 (n : Int)] w fun e w' => e = .returned (.tuple #[.int .u64 0, .int .u64 (n : Int)]) ∧ w' = w := by
  have h1 := and_low n (by omega)
  have h2 : bits .and .u64 (1 : Int) 4294967295 = 1 := by decide
  have h3 : bits .and .u64 (0 : Int) 4294967295 = 0 := by decide
  have h4 : IntKind.u64.wrap (n : Int) = (n : Int) := by rw [IntKind.wrap_u64]; omega
  go_enter Try.func56, Try.ntmps56
  have h5 : (n : Int) / 4294967296 = 0 := by omega
  go_wp2
  go_ret2
  exact ⟨rfl, rfl⟩

set_option maxRecDepth 100000 in
set_option maxHeartbeats 4000000 in
theorem mul_any (n : Nat) (w : World) (hn : n ≤ 1048576) :
    Calls Try.prog 53 #[.int .u64 1, .int .u64 (n : Int)] w fun e w' => e = .returned (.tuple #[.int .u64 0, .int .u64 (n : Int)]) ∧ w' = w := by
  have HM := Nu.hid (mul64_any n w hn)
  go_enter Try.func53, Try.ntmps53
  go_wp2_with (go_at_call 56; refine HM.out.mono ?_; rintro e w' ⟨rfl, rfl⟩)
  go_ret2
  exact ⟨rfl, rfl⟩

namespace Ro
/-- The first k are laid. -/
def rep (z : Int) (n k : Nat) : List Int := List.replicate k z ++ List.replicate (n - k) 0
theorem rep_len (z : Int) {n k : Nat} (h : k ≤ n) : (rep z n k).length = n := by simp [rep]; omega
theorem rep_at {z : Int} {n k j : Nat} (hj : j < k) : (rep z n k)[j]? = some z := by
  unfold rep
  rw [List.getElem?_append_left (by simpa using hj), List.getElem?_replicate, if_pos hj]
theorem rep_splice (z : Int) {n k c : Nat} (h : k + c ≤ n) : splice ((rep z n k).map (Value.int .i64)) k (List.replicate c (Value.int .i64 z)) = (rep z n (k + c)).map (Value.int .i64) := by
  unfold splice rep
  simp only [List.map_append, List.map_replicate, List.length_replicate]
  rw [List.take_append_of_le_length (by simp), List.take_of_length_le (by simp), List.drop_append, List.drop_of_length_le (by simp), List.nil_append, List.length_replicate, List.drop_replicate, ← List.append_assoc, List.replicate_append_replicate]
  congr 2
  omega
end Ro

/-- What Repeat answers. -/
def RepPost (z : Int) (n : Nat) (w : World) (e : Ending) (w' : World) : Prop := ∃ g, e = .returned (.slice (some ⟨g, 0, none⟩) n n) ∧ w.heap.size ≤ g ∧ IntsBlk w' g (List.replicate n z) ∧ Below w.heap.size w w'

theorem sizeInt1 : (Try.prog.info? 3).map (·.size) = some 1 := by kernel_rfl

/-- 'copy' within the row: the first c of those that are laid come behind them. -/
theorem run_copy_rep (W : World) (g n k c : Nat) (z : Int) (dp sp : Option Addr) (dLen dCap sLen sCap : Nat) (hI : IntsBlk W g (Ro.rep z n k)) (hk : k + c ≤ n) (hc : c = Nat.min sLen dLen) (hd : 0 < c → dp = some ⟨g, k, none⟩) (hs : 0 < c → ∃ ad, sp = some ad ∧ ∀ j, j < c → W.cell? (ad.add j) = some (.int .i64 z)) (ty : TypeId) :
    ∃ w', (Builtin.copy_ #[39, 39] ty #[.slice dp dLen dCap, .slice sp sLen sCap]).run Try.prog W = .ok (goInt c) w' ∧ IntsBlk w' g (Ro.rep z n (k + c)) ∧ ∀ B, B ≤ g → Below B W w' := by
  by_cases h0 : c = 0
  · subst h0
    exact ⟨W, run_copy_none (P := Try.prog) W 39 39 ty 3 dp sp dLen dCap sLen sCap Try.underlying39 sizeInt1 hc.symm, hI, fun B _ => Below.refl _ _⟩
  · obtain rfl := hd (by omega)
    obtain ⟨ad, rfl, hcell⟩ := hs (by omega)
    have hrun := run_copy_row (P := Try.prog) W 39 39 ty 3 g k dLen dCap ad sLen sCap ((Ro.rep z n k).map (Value.int .i64)).toArray 3 (List.replicate c (Value.int .i64 z)) Try.underlying39 sizeInt1 hI (by rw [List.length_replicate]; exact hc)
      (fun j v hj => by
        rw [List.getElem?_replicate] at hj
        split at hj
        · cases hj
          exact hcell j (by assumption)
        · cases hj) (by simp [Ro.rep]; omega) (fun v hv => by rw [List.eq_of_mem_replicate hv]; rfl)
    rw [List.length_replicate] at hrun
    refine ⟨_, hrun, ?_, fun B hB => ⟨rfl, rfl, rfl, by simp [World.setRow], fun q hq => setRow_other W g q _ (by omega)⟩⟩
    unfold IntsBlk
    rw [setRow_heap W g _ _ 3 _ hI, ← Ro.rep_splice z hk]
    unfold splice
    rw [List.length_replicate, List.append_assoc]

set_option maxRecDepth 100000 in
set_option maxHeartbeats 8000000 in
theorem repeat_any (z : Int) (b n : Nat) (w : World) (hc : w.cell? ⟨b, 0, none⟩ = some (.int .i64 z)) (hn : n ≤ 1048576) :
    Calls Try.prog 48 #[.slice (some ⟨b, 0, none⟩) 1 1, .int .i64 (n : Int)] w (RepPost z n w) := by
  obtain ⟨i0, hi, hz0, hz1, hz2⟩ := info_parts Try.infoNum
  have h4 : IntKind.u64.wrap (n : Int) = (n : Int) := by rw [IntKind.wrap_u64]; omega
  have h5 : IntKind.i64.wrap (n : Int) = (n : Int) := by rw [IntKind.wrap_i64]; omega
  have h6 : ¬ (9223372036854775807 : Int) < (n : Int) := by omega
  have hn0 : ¬ (n : Int) < 0 := by omega
  have HM := Nu.hid (mul_any n w hn)
  have HC := Nu.hid hc
  clear hc
  go_enter Try.func48, Try.ntmps48
  go_wp2_with (first
    | (go_at_call 53; refine HM.out.mono ?_; rintro e w' ⟨rfl, hw⟩; obtain rfl := hw.symm)
    | (at_make; refine wpList_make_full _ rfl _ _ 39 rfl w.heap.size 3 i0 (.int .i64 0) 1 Try.underlying39 hi hz0 hz1 _ _ _ _ n rfl rfl rfl rfl (by rw [hz2]; omega) (by unfold maxLen; omega) (Nat.le_refl _) ?_; refine Hid.out ?_))
  refine Nu.hid ?_
  intro w2 hrow hg2
  rw [made_zeros] at hrow
  have hb2 : Below w.heap.size w w2 := (Below.refl _ _).grown hg2 (Nat.le_refl _) (fun j hj => by cases hj)
  have hI : IntsBlk w2 w.heap.size (Ro.rep z n 0) := by
    unfold Ro.rep
    simpa using ints_of_row hrow
  have hc2 := (hb2.cell (p := ⟨b, 0, none⟩) (block_lt_of_cell HC.out)).trans HC.out
  have hmin : Nat.min 1 n ≤ n := Nat.min_le_right _ _
  obtain ⟨c, hcm⟩ : ∃ c, c = Nat.min 1 n := ⟨_, rfl⟩
  rw [← hcm] at hmin
  have hc1 : c ≤ 1 := by rw [hcm]; exact Nat.min_le_left _ _
  have hc3 : n ≠ 0 → 0 < c := fun h => by
    rw [hcm]
    show 0 < min 1 n
    omega
  obtain ⟨w3, hrun, hI3, hb3⟩ := run_copy_rep w2 w.heap.size n 0 c z (some ⟨w.heap.size, 0, none⟩) (some ⟨b, 0, none⟩) n n 1 1 hI (by omega) hcm (fun _ => rfl) (fun _ => ⟨_, rfl, fun j hj => by
    obtain rfl : j = 0 := by omega
    exact hc2⟩) 3
  rw [Nat.zero_add] at hI3
  have HI3 := Nu.hid hI3
  have HB3 := Nu.hid (hb2.trans (hb3 _ (Nat.le_refl _)))
  have HC3 := Nu.hid hc3
  clear hrow hg2 hb2 hI hc2 hcm hI3 hb3 hc3
  go_wp2
  go_loopw [8] (fun x wr => ∃ k : Nat, k ≤ n ∧ (n ≠ 0 → 0 < k) ∧ x = .int .i64 (k : Int) ∧ IntsBlk wr w.heap.size (Ro.rep z n k) ∧ Below w.heap.size w wr) (fun x _ => n - (intOf x).toNat)
  case atStart => exact ⟨c, hmin, HC3.out, rfl, HI3.out, HB3.out⟩
  case round =>
    clear hrun HI3 HB3 HC3
    obtain ⟨k, hk, hk0, rfl, hik, hb⟩ := hrel
    have HI := Nu.hid hik
    have HB := Nu.hid hb
    clear hik hb
    by_cases hlt : k < n
    · have hlti : (k : Int) < (n : Int) := by omega
      have hkp : 0 < k := hk0 (by omega)
      obtain ⟨c', hc'⟩ : ∃ c', c' = Nat.min k (n - k) := ⟨_, rfl⟩
      have hc1' : c' ≤ k := by rw [hc']; exact Nat.min_le_left _ _
      have hc2' : k + c' ≤ n := by
        have : c' ≤ n - k := by rw [hc']; exact Nat.min_le_right _ _
        omega
      have hc3' : 0 < c' := by
        rw [hc']
        show 0 < min k (n - k)
        omega
      obtain ⟨w4, hrun, hI4, hb4⟩ := run_copy_rep wr.drew w.heap.size n k c' z (some ⟨w.heap.size, k, none⟩) (some ⟨w.heap.size, 0, none⟩) (n - k) (n - k) k n HI.out hc2' hc' (fun _ => rfl) (fun _ => ⟨_, rfl, fun j hj => by
        have ea : ((⟨w.heap.size, 0, none⟩ : Addr).add j) = ⟨w.heap.size, j, none⟩ := by
          by_cases h0 : j = 0 <;> simp [Addr.add, h0]
        rw [ea]
        exact HI.out.cell (Ro.rep_at (by omega))⟩) 3
      have HI4 := Nu.hid hI4
      have HB4 := Nu.hid (HB.out.trans (((Below.refl _ _).drew).trans (hb4 _ (Nat.le_refl _))))
      clear hI4 hb4 hc'
      go_wp2_with fail
      go_region
      clear hrun
      go_wp2
      go_roundw
      case rel => exact ⟨k + c', hc2', fun _ => by omega, by simp, HI4.out, HB4.out⟩
      case measure => simp [intOf]; omega
    · have hlti : ¬ (k : Int) < (n : Int) := by omega
      obtain rfl : k = n := by omega
      go_wp2
      go_ret
      refine ⟨_, rfl, Nat.le_refl _, ?_, HB.out⟩
      have h1 := HI.out
      unfold Ro.rep at h1
      simpa using h1

end Go.Proofs.Ytjlfdkeklilafab
