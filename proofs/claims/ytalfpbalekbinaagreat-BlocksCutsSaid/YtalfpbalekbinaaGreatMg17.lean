import Derived.Test.YtalfpbalekbinaaGreatMg15
import Derived.Test.YtalfpbalekbinaaGreatMg16
import Derived.Laws.EntriesVeiled
/-
  enter, from where the half-edges that leave a vertex are gone over: the back edges are laid.
-/
namespace Go.Proofs.YtalfpbalekbinaaGreat
open Go.RowKit Go.Shelf

attribute [local go_sem] Oper.semAt_some

namespace BlE
/-- What is left of a code behind its first n statements. -/
def spine : Nat → Code → Code
  | 0, c => c
  | n + 1, .seq _ d => spine n d
  | _ + 1, c => c

/-- The edges that are laid when pre has been gone over. -/
def Xp (es : List (Int × Int)) (s : Df.St) (X : Nat → Prop) (pre : List Int) (e : Nat) : Prop := X e ∨ ∃ i : Nat, (i : Int) ∈ pre ∧ Bl.bk es s i ∧ e = i / 2
theorem Xp.nil {es : List (Int × Int)} {s : Df.St} {X : Nat → Prop} {e : Nat} : X e ↔ Xp es s X [] e := ⟨.inl, fun h => h.elim id (fun ⟨i, hi, _⟩ => by cases hi)⟩
theorem Xp.no {es : List (Int × Int)} {s : Df.St} {X : Nat → Prop} {pre : List Int} {i : Nat} (hb : ¬ Bl.bk es s i) {e : Nat} : Xp es s X pre e ↔ Xp es s X (pre ++ [(i : Int)]) e := by
  constructor
  · rintro (h | ⟨k, h1, h2, h3⟩)
    · exact .inl h
    · exact .inr ⟨k, List.mem_append_left _ h1, h2, h3⟩
  · rintro (h | ⟨k, h1, h2, h3⟩)
    · exact .inl h
    · rcases List.mem_append.1 h1 with h1 | h1
      · exact .inr ⟨k, h1, h2, h3⟩
      · have : k = i := by have := List.mem_singleton.1 h1; omega
        rw [this] at h2
        exact absurd h2 hb
theorem Xp.yes {es : List (Int × Int)} {s : Df.St} {X : Nat → Prop} {pre : List Int} {i : Nat} (hb : Bl.bk es s i) {e : Nat} : (Xp es s X pre e ∨ e = i / 2) ↔ Xp es s X (pre ++ [(i : Int)]) e := by
  constructor
  · rintro ((h | ⟨k, h1, h2, h3⟩) | h)
    · exact .inl h
    · exact .inr ⟨k, List.mem_append_left _ h1, h2, h3⟩
    · exact .inr ⟨i, by simp, hb, h⟩
  · rintro (h | ⟨k, h1, h2, h3⟩)
    · exact .inl (.inl h)
    · rcases List.mem_append.1 h1 with h1 | h1
      · exact .inl (.inr ⟨k, h1, h2, h3⟩)
      · have : k = i := by have := List.mem_singleton.1 h1; omega
        rw [this] at h3
        exact .inr h3

/-- What the operations of a round's push give. -/
def psVal (p Bx jh : Nat) (i z : Int) (sv v' : Value) : Nat → Value
  | 0 => .pointer (some ⟨p, 0, none⟩)
  | 1 => .pointer (some ⟨p, 0, none⟩)
  | 2 => .pointer (some ⟨p, 0, none⟩)
  | 3 => .pointer (some ⟨p, 5, none⟩)
  | 4 => sv
  | 5 => .int .i64 i
  | 6 => .int .i64 (jh : Int)
  | 7 => .int .i64 z
  | 8 => .agg #[.int .i64 (jh : Int), .int .i64 z]
  | 9 => .slice (some ⟨Bx, 0, none⟩) 1 1
  | 10 => v'
  | 11 => .pointer (some ⟨p, 0, none⟩)
  | 12 => .pointer (some ⟨p, 5, none⟩)
  | _ => undef
/-- What lies in memory by which have come up. -/
def psC (A w1 w2 w3 : World) (k9 k10 k13 : Nat) (L : Nat → Bool) (V : World) : Prop := if L k13 = true then V = w3 else if L k10 = true then V = w2 else if L k9 = true then V = w1 else V = A
theorem psC.other {A w1 w2 w3 : World} {k9 k10 k13 : Nat} {L : Nat → Bool} {V : World} (h : psC A w1 w2 w3 k9 k10 k13 L V) {i : Nat} (h1 : i ≠ k9) (h2 : i ≠ k10) (h3 : i ≠ k13) : psC A w1 w2 w3 k9 k10 k13 (AnyOrd.updB L i) V := by
  have e1 : AnyOrd.updB L i k9 = L k9 := if_neg (fun e => h1 e.symm)
  have e2 : AnyOrd.updB L i k10 = L k10 := if_neg (fun e => h2 e.symm)
  have e3 : AnyOrd.updB L i k13 = L k13 := if_neg (fun e => h3 e.symm)
  unfold psC at h ⊢
  rw [e1, e2, e3]
  exact h
end BlE

theorem wrap_few9 (k : Nat) (h : k ≤ 4194304 * 4194304) : IntKind.i64.wrap (k : Int) = (k : Int) := by
  simp [IntKind.wrap, IntKind.bits, IntKind.signed]
  omega
theorem kep_wrote {S : Nat → Prop} {n₀ : Nat} {A V : World} (h : Wrote S A V) (hn : n₀ ≤ A.heap.size) (hS : ∀ k, S k → n₀ ≤ k) : Kep n₀ S A V :=
  ⟨h.below hn hS, fun b _ hb _ hs => (h.block b (Array.getElem?_eq_some_iff.1 hb).1 hs).trans hb⟩
theorem kf_wrote {S : Nat → Prop} {B : Nat} {A V : World} (h : Wrote S A V) (hS : ∀ k, k < A.heap.size → S k → k < B ∨ ∃ o, A.heap[k]? = some o ∧ o.isCells = true) : KeepsFrom B A V :=
  ⟨h.size, fun k o hk h0 ho => (h.block k (Array.getElem?_eq_some_iff.1 h0).1 (fun hs => by
    rcases hS k (Array.getElem?_eq_some_iff.1 h0).1 hs with h1 | ⟨o', h1, h2⟩
    · omega
    · rw [h0] at h1
      cases h1
      rw [ho] at h2
      cases h2)).trans h0⟩
theorem OwnH.isCells {w : World} {B k : Nat} {v : Value} {S : List (Nat × Int)} (h : OwnH w B v S) (hk : v.ownBlock = some k) : ∃ o, w.heap[k]? = some o ∧ o.isCells = true := by
  rcases h.2 with ⟨e1, _⟩ | ⟨g, cap, cur, e1, _, hh, _⟩
  · rw [e1] at hk; cases hk
  · rw [e1] at hk
    obtain rfl : g = k := Option.some.inj hk
    exact ⟨_, hh, rfl⟩

def EnterPost (x : Fx) (w0 : World) (X : Nat → Prop) (T : List Nat) (Y : List Nat) (F : List (List Nat)) (v : Nat) (e : Ending) (w' : World) : Prop :=
  e = .returned (.tuple #[]) ∧ ∃ S', FinAt x w0 w' S' Y F ∧ Bl.Fi x.es x.s (BlE.Xp x.es x.s X (Cs.outZ x.n x.es v)) T S' Y F

set_option maxRecDepth 100000 in
set_option maxHeartbeats 16000000 in
theorem enter_tail (x : Fx) (w0 w5 : World) (sv yv : Value) (D : DataW Value) (G : Nat → Prop) (S : List (Nat × Int)) (Y : List Nat) (F : List (List Nat)) (Bf v : Nat) (T : List Nat) (X : Nat → Prop) (h : FinIn x w0 w5 sv yv D G S Y F) (hbf : Boxed w5 Bf 65 (.pointer (some ⟨x.p, 0, none⟩))) (hBp : x.B ≤ Bf) (hBs : sv.ownBlock ≠ some Bf) (hv : v < x.n)
    (f : Bl.Fi x.es x.s X T S Y F) (hT : (∃ T1 t, T = T1 ++ [t] ∧ Lo.go_ x.es x.s t = v) ∨ ∀ i, i < 2 * x.es.length → Cs.fr x.es i = v → ¬ Bl.bk x.es x.s i) (hX : ∀ i, i < 2 * x.es.length → Cs.fr x.es i = v → Bl.bk x.es x.s i → ¬ X (i / 2))
    {u3 u4 u5 u6 u7 u8 u9 u10 u11 u12 u13 u14 u15 u16 u17 u18 u19 u20 u21 u22 u23 u24 u25 u26 u27 u28 u29 u30 u31 u32 u33 u34 u35 u36 u37 u38 u39 u40 u41 u42 u43 u44 u45 u46 u47 u48 u49 u50 u51 u52 u53 u54 u55 u56 u57 u58 u59 u60 u61 u62 u63 u64 u65 u66 u67 u68 u69 u70 u71 u72 u73 u74 u75 u76 u77 u78 u79 u80 u81 u82 u83 u84 u85 u86 u87 u88 u89 u90 : Value} :
    Code.wp Tryz.prog (BlE.spine 2 (Tryz.f54.body.getD .skip)) (bodyPostM Fence.wide 9 Tryz.prog Tryz.f54 (EnterPost x w0 X T Y F v)) { tmps := #[.pointer (some ⟨x.p, 0, none⟩), .int .i64 (v : Int), .pointer (some ⟨Bf, 0, none⟩), u3, u4, u5, u6, u7, u8, u9, u10, u11, u12, u13, u14, u15, u16, u17, u18, u19, u20, u21, u22, u23, u24, u25, u26, u27, u28, u29, u30, u31, u32, u33, u34, u35, u36, u37, u38, u39, u40, u41, u42, u43, u44, u45, u46, u47, u48, u49, u50, u51, u52, u53, u54, u55, u56, u57, u58, u59, u60, u61, u62, u63, u64, u65, u66, u67, u68, u69, u70, u71, u72, u73, u74, u75, u76, u77, u78, u79, u80, u81, u82, u83, u84, u85, u86, u87, u88, u89, u90], defers := [] } w5 := by
  have hfew := h.ok.val.few
  have c0 : w5.cell? ⟨x.p, 0, none⟩ = some x.av := (h.cells (i := 0) rfl).1
  have cb := hbf.cell
  have HOUT := Nu.hid (citer8_any x.av x.n x.es (v : Int) w0 w5 h.ok.adj h.below)
  have hzl : (Cs.outZ x.n x.es v).length ≤ 8388608 := by
    rw [Cs.outZ_len]
    have := Cs.outI_len_le (n := x.n) (es := x.es) (v := (v : Int))
    omega
  have H := Nu.hid h
  have HF := Nu.hid f
  have HT := Nu.hid hT
  have HX := Nu.hid hX
  have HBF := Nu.hid hbf
  have HZL := Nu.hid hzl
  clear h f hT hX hzl hbf
  simp only [Tryz.f54, Option.getD, BlE.spine]
  go_wp2_with (go_at_call 58; refine HOUT.out.mono ?_; rintro e w6 ⟨Bs, ao, cap, rfl, hBse, hbox, hints, hb6⟩; have HBS : Hid (Bs = w5.heap.size) := hBse; clear hBse)
  refine (wpIn_wide (n := 9)).1 ?_
  have h6 := H.out.later hb6
  have hb0 := h6.below
  have hund : IntsUnder w0.heap.size w6 ao (Cs.outZ x.n x.es v) := hints.under hb0
  have hbf6 : Boxed w6 Bf 65 (.pointer (some ⟨x.p, 0, none⟩)) := (hb6.block _ HBF.out.lt).trans HBF.out
  have hpl := h6.plt
  have hmbl := h6.map.lt
  have hp5 := H.out.plt
  have hl4 := H.out.ok.l4
  have hl2 := H.out.ok.l2
  have hs56 := hb6.size
  have hbfl := HBF.out.lt
  have hSs : ¬ (Bs = x.p ∨ sv.ownBlock = some Bs ∨ w6.heap.size ≤ Bs) := by
    have := hbox.lt
    have hBse := HBS.out
    rintro (e | e | e)
    · omega
    · have := (H.out.stk.lt e).2
      omega
    · omega
  have hSf : ¬ (Bf = x.p ∨ sv.ownBlock = some Bf ∨ w6.heap.size ≤ Bf) := by
    rintro (e | e | e)
    · omega
    · exact hBs e
    · omega
  refine it_out (n := 9) (gf := 81) (lb := #[.pointer (some ⟨Bs, 0, none⟩)]) (by rfl) (enters_of Tryz.func81 (by kernel_rfl) rfl)
    (out_it Bs w0.heap.size cap (fun b => b = x.p ∨ sv.ownBlock = some b ∨ w6.heap.size ≤ b) ao (Cs.outZ x.n x.es v) HZL.out w6 hb0.size hSs hbox hund) hb0.size (fun _ => rfl)
    (fun pre W => (∃ sv' S', FinIn x w0 W sv' yv D G S' Y F ∧ Bl.Fi x.es x.s (BlE.Xp x.es x.s X pre) T S' Y F ∧ (sv'.ownBlock = sv.ownBlock ∨ ∃ g, sv'.ownBlock = some g ∧ w6.heap.size ≤ g)) ∧ Kep w0.heap.size (fun b => b = x.p ∨ sv.ownBlock = some b ∨ w6.heap.size ≤ b) w6 W) (fun _ _ _ => False)
    (OwnFrom.and (fun pre W W' row hs hg hr => by
      obtain ⟨sv', S', q1, q2, q3⟩ := hs
      exact ⟨sv', S', q1.grown hg hr hb0.size hmbl, q2, q3⟩) (Kep.own hb0.size hb0.size)) (fun _ _ _ _ _ hs _ _ => hs) ⟨⟨sv, S, h6, HF.out.congr (fun e _ => BlE.Xp.nil), .inl rfl⟩, Kep.refl _ _ _⟩
    (fun k a' _ => a' = { tmps := #[.pointer (some ⟨x.p, 0, none⟩), .int .i64 (v : Int), .pointer (some ⟨Bf, 0, none⟩), u3, u4, .int .i64 k, u6, u7, u8, u9, u10, u11, u12, u13, u14, u15, u16, u17, u18, u19, u20, u21, u22, u23, u24, u25, u26, u27, u28, u29, u30, u31, u32, u33, u34, u35, u36, u37, u38, u39, u40, u41, u42, u43, u44, u45, u46, u47, u48, u49, u50, u51, .pointer (some ⟨x.p, 0, none⟩), .pointer (some ⟨x.p, 0, none⟩), .pointer (some ⟨x.p, 0, none⟩), x.av, .int .i64 (v : Int), .func (.func 81) #[] #[.pointer (some ⟨Bs, 0, none⟩)], .int .i64 k, u59, u60, u61, u62, u63, u64, u65, u66, u67, u68, u69, u70, u71, u72, u73, u74, u75, u76, u77, u78, u79, u80, u81, u82, u83, u84, u85, u86, u87, u88, u89, u90], defers := [] })
    (fun k a' => ownFrom_pure _ _) ?assign ?body ?done ?stop
  case assign =>
    intro l2 pre k W K _ hi hK
    gi_wp2
    exact hK _ _ (KeepsFrom.refl _ _) (Kep.refl _ _ _) hi rfl
  case body =>
    rintro l2 pre k a' A ⟨hl2', -⟩ _ hpx ⟨⟨sv', S', hA, hfA, hsv'⟩, hkA⟩ rfl
    obtain ⟨i, rfl, hi, hfr⟩ := (mem_outZ hv).1 (hpx.subset (List.mem_append_right pre (List.mem_singleton.2 rfl)))
    have hnin : (i : Int) ∉ pre := fun hin => by
      have hnd := hpx.sublist.nodup (Lo.outI_nodup hv)
      exact (List.nodup_append.1 hnd).2.2 _ hin _ (List.mem_singleton.2 rfl) rfl
    have hbfA : Boxed A Bf 65 (.pointer (some ⟨x.p, 0, none⟩)) := hkA.boxed hbf6 hSf
    have hAs : w6.heap.size ≤ A.heap.size := hkA.1.size
    have HBK := Nu.hid (back9_any i hi hA)
    have cbA := hbfA.cell
    have HA := Nu.hid hA
    have HFA := Nu.hid hfA
    have HKA := Nu.hid hkA
    have HBFA := Nu.hid hbfA
    by_cases hbk : Bl.bk x.es x.s i
    · obtain ⟨hjl, hjt, hjf, hjg⟩ := Bl.bk_back hA.ok.vf hi hbk
      have hyes : (decide (Df.at_ x.s.ori (i / 2) = (i : Int)) && (Df.at_ x.s.par (Cs.to x.es i) != (i : Int))) = true := by
        rw [Bool.and_eq_true, decide_eq_true_iff, bne_iff_ne]
        exact hbk
      rw [hyes] at HBK
      obtain ⟨T1, t, rfl, hgt⟩ := HT.out.resolve_right (fun hno => hno i hi hfr hbk)
      have hYne : Y ≠ [] := fun e => by
        have := hfA.len
        rw [e] at this
        simp at this
      obtain ⟨Y1, a, rfl⟩ : ∃ Y1 a, Y = Y1 ++ [a] := ⟨Y.dropLast, Y.getLast hYne, (List.dropLast_concat_getLast hYne).symm⟩
      obtain ⟨l, hl⟩ := hfA.last
      have hSl := hfA.few
      have hTl := hfA.fewT
      have hlen : Y1.length = T1.length := by simpa using hfA.len
      rw [List.length_append, List.length_singleton] at hTl
      obtain ⟨z, hz⟩ : ∃ z, Df.at_ x.s.hei (Cs.to x.es i) = z := ⟨_, rfl⟩
      have hht : Lo.ht x.es x.s (i / 2) = z := by unfold Lo.ht; rw [hjg]; exact hz
      have hnX : ¬ BlE.Xp x.es x.s X pre (i / 2) := by
        rintro (h1 | ⟨k, h1, h2, h3⟩)
        · exact HX.out i hi hfr hbk h1
        · have e1 := h2.1
          rw [← h3, hbk.1] at e1
          have : k = i := by omega
          rw [this] at h1
          exact hnin h1
      have hfb := (hfA.back hA.ok.val hA.ok.vf hl hjl hjt (hjf.trans (hfr.trans hgt.symm)) hnX).congr (fun e _ => BlE.Xp.yes hbk)
      rw [hht] at hfb
      have HFB := Nu.hid hfb
      have htn := (Cs.half_lt hA.ok.val hi).2
      obtain ⟨b2, o2, ef2, hc2⟩ := hA.ok.hei htn
      obtain ⟨jh, hjh⟩ : ∃ jh, i / 2 = jh := ⟨_, rfl⟩
      have i0 : (0 : Int) ≤ (i : Int) := by omega
      have htd : (i : Int).tdiv 2 = (jh : Int) := by rw [Int.tdiv_eq_ediv_of_nonneg i0]; omega
      have hjm : jh < 4194304 := by omega
      rw [hjh] at HFB
      have HL := Nu.hid hl
      have HSL : Hid (S'.length ≤ 4194304 ∧ Y1.length ≤ 4194304) := ⟨by omega, by omega⟩
      obtain ⟨tt, htt⟩ : ∃ tt, Cs.to x.es i = tt := ⟨_, rfl⟩
      rw [htt] at htn hz
      have HTO0 : Hid (∀ W, Below w0.heap.size w0 W → Calls Tryz.prog 46 #[x.av, .int .i64 (i : Int)] W fun e w' => e = .returned (.int .i64 (tt : Int)) ∧ Below W.heap.size W w') := fun W hW => (to_any x.av x.n x.es (i : Int) W (HA.out.ok.adj.later hW)).mono fun e w' ⟨he, hw⟩ => ⟨by rw [he, Cs.toI_in hi, htt], by rw [hw]; exact Below.refl _ _⟩
      have t0 : (0 : Int) ≤ (tt : Int) := by omega
      have t1 : (tt : Int) < (x.n : Int) := by omega
      have HC2 : Hid (∀ W, Below w0.heap.size w0 W → W.cell? ⟨b2, o2 + tt, none⟩ = some (.int .i64 z)) := fun W hW => by
        have := hc2 W hW tt htn
        rwa [hz] at this
      have HE2 := Nu.hid ef2
      clear hA hfA hkA hbfA hyes hfb hl hSl hTl hlen hht hnX hc2 ef2 hjl hjt hjf hjg hYne hbk hz htt
      gi_wp2_with (refine ⟨trivial, ?_⟩; gi_at_call 76; refine (CallsIn.inRound l2 (callsIn_wide.2 HBK.out)).mono ?_; rintro e A1 ⟨rfl, hA1⟩; refine Hid.out ?_)
      refine Nu.hid ?_
      have h1 := HA.out.later hA1
      have HA1 := Nu.hid hA1
      have H1 := Nu.hid h1
      have cb1 : ∀ E : LW A1, E.val.cell? ⟨Bf, 0, none⟩ = some (.pointer (some ⟨x.p, 0, none⟩)) := fun E => Boxed.cell ((E.h.block _ (Nat.lt_of_lt_of_le HBFA.out.lt hA1.size)).trans ((hA1.block _ HBFA.out.lt).trans HBFA.out))
      have c01 : ∀ E : LW A1, E.val.cell? ⟨x.p, 0, none⟩ = some x.av := fun E => ((h1.later E.h).cells (i := 0) rfl).1
      have c21 : ∀ E : LW A1, E.val.cell? ⟨x.p, 2, none⟩ = some (.slice (some ⟨b2, o2, none⟩) x.n x.f.c2) := fun E => by have := ((h1.later E.h).cells (i := 2) (u := .slice x.f.a2 x.n x.f.c2) rfl).1; rwa [HE2.out] at this
      have d21 : ∀ E : LW A1, E.val.cell? ⟨b2, o2 + tt, none⟩ = some (.int .i64 z) := fun E => HC2.out E.val (h1.later E.h).below
      have HTO : Hid (∀ E : LW A1, Calls Tryz.prog 46 #[x.av, .int .i64 (i : Int)] E.val fun e w' => e = .returned (.int .i64 (tt : Int)) ∧ Below E.val.heap.size E.val w') := fun E => HTO0.out E.val (h1.later E.h).below
      have hne := LW.any A1
      clear hA1 h1 cbA
      gi_wp2
      refine wpIn_region_lw (by kernel_rfl) (by kernel_rfl) (by kernel_rfl) ?_
      repeat (go_big_quiet_step ((first | (go_at_call 46; exact Calls.lw (HTO.out _)))))
      refine wpQuiet_nil ?_
      rintro _ ⟨E, rfl⟩
      obtain ⟨A2, hA2e⟩ : ∃ A2, A2 = E.val := ⟨_, rfl⟩
      have hA2 : Below A1.heap.size A1 A2 := by rw [hA2e]; exact E.h
      have cb2 := cb1 E
      rw [← hA2e] at cb2
      rw [← hA2e]
      clear cb1 c01 c21 d21 hne HTO hA2e
      have h2 : FinIn x w0 A2.drew sv' yv D G S' (Y1 ++ [a]) F := (H1.out.later hA2).later ((Below.refl _ _).drew)
      obtain ⟨v', w2, hrun, hw2, hat, ⟨g', c', hv'⟩, hfin3, hw3⟩ := h2.pushS jh z HSL.out.1 66
      have hbf2 : Boxed A2 Bf 65 (.pointer (some ⟨x.p, 0, none⟩)) := (hA2.block _ (Nat.lt_of_lt_of_le HBFA.out.lt HA1.out.size)).trans ((HA1.out.block _ HBFA.out.lt).trans HBFA.out)
      have hsz2 : A.heap.size ≤ A2.heap.size := Nat.le_trans HA1.out.size hA2.size
      have hbfl2 : Bf < A.heap.size := HBFA.out.lt
      have hnsB : sv'.ownBlock ≠ some Bf := fun e => by
        rcases hsv' with e1 | ⟨g, e1, e2⟩
        · rw [e1] at e; exact hBs e
        · rw [e1] at e; have := Option.some.inj e; omega
      have hbfV : ∀ V, (V = A2.drew ∨ V = A2.drew.alloc (.cells #[.int .i64 (jh : Int), .int .i64 z] 103) ∨ V = w2 ∨ V = w2.setCell ⟨x.p, 5, none⟩ v') → V.cell? ⟨Bf, 0, none⟩ = some (.pointer (some ⟨x.p, 0, none⟩)) := fun V hV => by
        have hb : V.heap[Bf]? = A2.heap[Bf]? := by
          have hlt : Bf < A2.heap.size := by omega
          rcases hV with rfl | rfl | rfl | rfl
          · rfl
          · exact Below.heap_alloc A2.drew _ Bf hlt
          · exact hw2.block Bf hlt hnsB
          · exact hw3.block Bf hlt (fun e => e.elim (by omega) hnsB)
        exact Boxed.cell (hb.trans hbf2)
      have c5V : ∀ V, (V = A2.drew ∨ V = A2.drew.alloc (.cells #[.int .i64 (jh : Int), .int .i64 z] 103)) → V.cell? ⟨x.p, 5, none⟩ = some sv' := fun V hV => by
        have hc : A2.cell? ⟨x.p, 5, none⟩ = some sv' := ((H1.out.later hA2).cells (i := 5) rfl).1
        rcases hV with rfl | rfl
        · exact hc
        · exact (World.cell?_of_block (Below.heap_alloc A2.drew _ x.p (H1.out.later hA2).plt)).trans hc
      have c5W : w2.cell? ⟨x.p, 5, none⟩ = some sv' ∧ w2.frozen? ⟨x.p, 5, none⟩ = false := by
        have hb := hw2.block x.p h2.plt (fun e => h2.sfar h2.ok.l4 e)
        have := h2.cells (i := 5) (u := sv') rfl
        exact ⟨(World.cell?_of_block hb).trans this.1, (World.frozen?_of_block hb).trans this.2⟩
      gi_wp2
      refine wpIn_region_any (by kernel_rfl) ?_
      refine AnyOrd.anyLc (BlE.psVal x.p A2.heap.size jh (i : Int) z sv' v') (BlE.psC A2.drew (A2.drew.alloc (.cells #[.int .i64 (jh : Int), .int .i64 z] 103)) w2 (w2.setCell ⟨x.p, 5, none⟩ v') 9 10 13) 91 rfl (by kernel_rfl) (by kernel_rfl) rfl ?_ ?_
      · intro j o L V ev ho hLi hC haft hdc he1 he2 hec hef
        have hc : j = 0 ∨ j = 1 ∨ j = 2 ∨ j = 3 ∨ j = 4 ∨ j = 5 ∨ j = 6 ∨ j = 7 ∨ j = 8 ∨ j = 9 ∨ j = 10 ∨ j = 11 ∨ j = 12 ∨ j = 13 := by
          have : j < 14 := (Array.getElem?_eq_some_iff.1 ho).1
          omega
        have hcV : V = A2.drew ∨ V = A2.drew.alloc (.cells #[.int .i64 (jh : Int), .int .i64 z] 103) ∨ V = w2 ∨ V = w2.setCell ⟨x.p, 5, none⟩ v' := by
          unfold BlE.psC at hC
          split at hC
          · exact .inr (.inr (.inr hC))
          · split at hC
            · exact .inr (.inr (.inl hC))
            · split at hC
              · exact .inr (.inl hC)
              · exact .inl hC
        have kb := hbfV V hcV
        have hd13 : L 13 = true → L 10 = true := fun h => hdc 13 _ rfl h ⟨10, .data⟩ (by simp) rfl
        have hd10 : L 10 = true → L 4 = true ∧ L 9 = true := fun h => ⟨hdc 10 _ rfl h ⟨4, .data⟩ (by simp) rfl, hdc 10 _ rfl h ⟨9, .data⟩ (by simp) rfl⟩
        rcases hc with rfl | rfl | rfl | rfl | rfl | rfl | rfl | rfl | rfl | rfl | rfl | rfl | rfl | rfl <;> obtain rfl := Option.some.inj ho
        · have e1 : ev (.tmp 2) = .pointer (some ⟨Bf, 0, none⟩) := he2 2 (by kernel_rfl)
          exact AnyOrd.gives_value (w' := V) (by simp [execOp, go_sem, e1, kb]; rfl) ⟨rfl, hC.other (by decide) (by decide) (by decide)⟩
        · have e1 : ev (.tmp 2) = .pointer (some ⟨Bf, 0, none⟩) := he2 2 (by kernel_rfl)
          exact AnyOrd.gives_value (w' := V) (by simp [execOp, go_sem, e1, kb]; rfl) ⟨rfl, hC.other (by decide) (by decide) (by decide)⟩
        · have e1 : ev (.tmp 76) = .pointer (some ⟨x.p, 0, none⟩) := he1 1 76 (by omega) rfl (by decide)
          exact AnyOrd.gives_value (w' := V) (by simp [execOp, go_sem, e1]; rfl) ⟨rfl, hC.other (by decide) (by decide) (by decide)⟩
        · have e1 : ev (.tmp 77) = .pointer (some ⟨x.p, 0, none⟩) := he1 2 77 (by omega) rfl (by decide)
          exact AnyOrd.gives_value (w' := V) (by simp [execOp, go_sem, e1]; rfl) ⟨rfl, hC.other (by decide) (by decide) (by decide)⟩
        · have e1 : ev (.tmp 78) = .pointer (some ⟨x.p, 5, none⟩) := he1 3 78 (by omega) rfl (by decide)
          have h10 : L 10 = false := by
            cases h : L 10 with
            | false => rfl
            | true => rw [(hd10 h).1] at hLi; cases hLi
          have h13 : L 13 = false := by
            cases h : L 13 with
            | false => rfl
            | true => rw [hd13 h] at h10; cases h10
          have k5 := c5V V (by
            unfold BlE.psC at hC
            rw [h13, h10] at hC
            simp only [Bool.false_eq_true, if_false] at hC
            split at hC
            · exact .inr hC
            · exact .inl hC)
          exact AnyOrd.gives_value (v := sv') (w' := V) (by simp [execOp, go_sem, e1, k5]) ⟨rfl, hC.other (by decide) (by decide) (by decide)⟩
        · have e1 : ev (.tmp 5) = .int .i64 (i : Int) := he2 5 (by kernel_rfl)
          exact AnyOrd.gives_value (w' := V) (by simp [execOp, go_sem, e1]; rfl) ⟨rfl, hC.other (by decide) (by decide) (by decide)⟩
        · have e1 : ev (.tmp 80) = .int .i64 (i : Int) := he1 5 80 (by omega) rfl (by decide)
          exact AnyOrd.gives_value (v := .int .i64 (jh : Int)) (w' := V) (by simp [execOp, go_sem, e1, htd, hec]; exact wrap_few9 jh (by omega)) ⟨rfl, hC.other (by decide) (by decide) (by decide)⟩
        · have e1 : ev (.tmp 6) = .int .i64 z := he2 6 (by kernel_rfl)
          exact AnyOrd.gives_value (w' := V) (by simp [execOp, go_sem, e1]; rfl) ⟨rfl, hC.other (by decide) (by decide) (by decide)⟩
        · have e1 : ev (.tmp 81) = .int .i64 (jh : Int) := he1 6 81 (by omega) rfl (by decide)
          have e2 : ev (.tmp 82) = .int .i64 z := he1 7 82 (by omega) rfl (by decide)
          exact AnyOrd.gives_value (v := .agg #[.int .i64 (jh : Int), .int .i64 z]) (w' := V) (by simp [execOp, go_sem, e1, e2]) ⟨rfl, hC.other (by decide) (by decide) (by decide)⟩
        · have e1 : ev (.tmp 83) = .agg #[.int .i64 (jh : Int), .int .i64 z] := he1 8 83 (by omega) rfl (by decide)
          have h10 : L 10 = false := by
            cases h : L 10 with
            | false => rfl
            | true => rw [(hd10 h).2] at hLi; cases hLi
          have h13 : L 13 = false := by
            cases h : L 13 with
            | false => rfl
            | true => rw [hd13 h] at h10; cases h10
          obtain rfl : V = A2.drew := by
            unfold BlE.psC at hC
            rw [h13, h10, hLi] at hC
            exact hC
          refine AnyOrd.gives_value (v := .slice (some ⟨A2.heap.size, 0, none⟩) 1 1) (w' := A2.drew.alloc (.cells #[.int .i64 (jh : Int), .int .i64 z] 103)) (by simp [execOp, go_sem, e1]) ⟨rfl, ?_⟩
          unfold BlE.psC
          rw [show AnyOrd.updB L 9 13 = false from h13, show AnyOrd.updB L 9 10 = false from h10, show AnyOrd.updB L 9 9 = true from rfl]
          rfl
        · have e1 : ev (.tmp 79) = sv' := he1 4 79 (by omega) rfl (by decide)
          have e2 : ev (.tmp 84) = .slice (some ⟨A2.heap.size, 0, none⟩) 1 1 := he1 9 84 (by omega) rfl (by decide)
          have h9 : L 9 = true := haft ⟨9, .data⟩ (by simp) rfl
          have h13 : L 13 = false := by
            cases h : L 13 with
            | false => rfl
            | true => rw [hd13 h] at hLi; cases hLi
          obtain rfl : V = A2.drew.alloc (.cells #[.int .i64 (jh : Int), .int .i64 z] 103) := by
            unfold BlE.psC at hC
            rw [h13, hLi, h9] at hC
            exact hC
          have hr : ∀ o : Oper, o.op = .call { callee := .builtin .append, args := #[.tmp 79, .tmp 84], argTypes := #[66, 66] } → o.type = 66 → (execOp ev o).run Tryz.prog (A2.drew.alloc (.cells #[.int .i64 (jh : Int), .int .i64 z] 103)) = .ok (.value v') w2 := fun o ho ht => by
            unfold execOp
            simp only [ho, ht, resolve, invoke, builtin, Sem.run_bind, Sem.run_pure, Result.andThen_ok, List.map_toArray, List.map_cons, List.map_nil, e1, e2]
            have := hrun
            rw [show A2.drew.heap.size = A2.heap.size from rfl] at this
            rw [this]
            rfl
          refine AnyOrd.gives_value (v := v') (w' := w2) (hr _ rfl rfl) ⟨rfl, ?_⟩
          unfold BlE.psC
          rw [show AnyOrd.updB L 10 13 = false from h13, show AnyOrd.updB L 10 10 = true from rfl]
          rfl
        · have e1 : ev (.tmp 75) = .pointer (some ⟨x.p, 0, none⟩) := he1 0 75 (by omega) rfl (by decide)
          exact AnyOrd.gives_value (w' := V) (by simp [execOp, go_sem, e1]; rfl) ⟨rfl, hC.other (by decide) (by decide) (by decide)⟩
        · have e1 : ev (.tmp 86) = .pointer (some ⟨x.p, 0, none⟩) := he1 11 86 (by omega) rfl (by decide)
          exact AnyOrd.gives_value (w' := V) (by simp [execOp, go_sem, e1]; rfl) ⟨rfl, hC.other (by decide) (by decide) (by decide)⟩
        · have e1 : ev (.tmp 87) = .pointer (some ⟨x.p, 5, none⟩) := he1 12 87 (by omega) rfl (by decide)
          have e2 : ev (.tmp 85) = v' := he1 10 85 (by omega) rfl (by decide)
          have h10 : L 10 = true := haft ⟨10, .data⟩ (by simp) rfl
          obtain rfl : V = w2 := by
            unfold BlE.psC at hC
            rw [hLi, h10] at hC
            exact hC
          refine AnyOrd.gives_skip (w' := V.setCell ⟨x.p, 5, none⟩ v') (by rw [hv'] at e2 ⊢; simp [execOp, go_sem, e1, e2, c5W.1, c5W.2]) ⟨rfl, ?_⟩
          unfold BlE.psC
          rw [if_pos (show AnyOrd.updB L 13 13 = true from rfl)]
      · intro L V hall hC
        unfold BlE.psC at hC
        rw [if_pos (hall 13 (by decide))] at hC
        subst hC
        generalize hfr : AnyOrd.canon _ _ _ _ = fr
        have hfr2 : fr = { tmps := #[.pointer (some ⟨x.p, 0, none⟩), .int .i64 (v : Int), .pointer (some ⟨Bf, 0, none⟩), u3, u4, .int .i64 (i : Int), .int .i64 z, u7, u8, u9, u10, u11, u12, u13, u14, u15, u16, u17, u18, u19, u20, u21, u22, u23, u24, u25, u26, u27, u28, u29, u30, u31, u32, u33, u34, u35, u36, u37, u38, u39, u40, u41, u42, u43, u44, u45, u46, u47, u48, u49, u50, u51, .pointer (some ⟨x.p, 0, none⟩), .pointer (some ⟨x.p, 0, none⟩), .pointer (some ⟨x.p, 0, none⟩), x.av, .int .i64 (v : Int), .func (.func 81) #[] #[.pointer (some ⟨Bs, 0, none⟩)], .int .i64 (i : Int), .pointer (some ⟨x.p, 0, none⟩), .int .i64 (i : Int), .bool true, .pointer (some ⟨x.p, 0, none⟩), .pointer (some ⟨x.p, 0, none⟩), .pointer (some ⟨x.p, 1, none⟩), .pointer (some ⟨x.p, 2, none⟩), .slice (some ⟨b2, o2, none⟩) x.n x.f.c2, .pointer (some ⟨x.p, 0, none⟩), .pointer (some ⟨x.p, 0, none⟩), .pointer (some ⟨x.p, 0, none⟩), x.av, .int .i64 (i : Int), .int .i64 (tt : Int), .pointer (some ⟨b2, o2 + tt, none⟩), .int .i64 z, .pointer (some ⟨x.p, 0, none⟩), .pointer (some ⟨x.p, 0, none⟩), .pointer (some ⟨x.p, 0, none⟩), .pointer (some ⟨x.p, 5, none⟩), sv', .int .i64 (i : Int), .int .i64 (jh : Int), .int .i64 z, .agg #[.int .i64 (jh : Int), .int .i64 z], .slice (some ⟨A2.heap.size, 0, none⟩) 1 1, v', .pointer (some ⟨x.p, 0, none⟩), .pointer (some ⟨x.p, 5, none⟩), u88, u89, u90], defers := [] } := by rw [← hfr]; kernel_rfl
        subst hfr2
        have hl3 : (S' ++ [(jh, z)])[a]? = some (t, l) := by
          rw [List.getElem?_append_left (List.getElem?_eq_some_iff.1 HL.out).1]
          exact HL.out
        have HLW := Nu.hid (lower_any x w0 (w2.setCell ⟨x.p, 5, none⟩ v') v' yv D G (S' ++ [(jh, z)]) Y1 a t l z F hfin3 hl3 HSL.out.2)
        have kb3 := hbfV _ (.inr (.inr (.inr rfl)))
        have HEND : Hid (∀ W', FinIn x w0 W' v' yv D G ((S' ++ [(jh, z)]).set a (t, min l z)) (Y1 ++ [a]) F → Wrote (fun k => v'.ownBlock = some k) (w2.setCell ⟨x.p, 5, none⟩ v') W' → KeepsFrom w6.heap.size A W' ∧ Kep w0.heap.size (fun b => b = x.p ∨ sv.ownBlock = some b ∨ w6.heap.size ≤ b) A W' ∧ ((∃ sv' S', FinIn x w0 W' sv' yv D G S' (Y1 ++ [a]) F ∧ Bl.Fi x.es x.s (BlE.Xp x.es x.s X (pre ++ [(i : Int)])) (T1 ++ [t]) S' (Y1 ++ [a]) F ∧ (sv'.ownBlock = sv.ownBlock ∨ ∃ g, sv'.ownBlock = some g ∧ w6.heap.size ≤ g)) ∧ Kep w0.heap.size (fun b => b = x.p ∨ sv.ownBlock = some b ∨ w6.heap.size ≤ b) w6 W')) := fun W' hW' hwW' => by
          have hA2' : Wrote (fun k => k = x.p ∨ sv'.ownBlock = some k ∨ A.heap.size ≤ k) A A2.drew := (((Wrote.refl _ A).later HA1.out).later hA2).drew
          have h3 : Wrote (fun k => k = x.p ∨ sv'.ownBlock = some k ∨ A.heap.size ≤ k) A2.drew (w2.setCell ⟨x.p, 5, none⟩ v') := hw3.mono fun k _ hk => hk.elim .inl (fun hk => .inr (.inl hk))
          have h4 : Wrote (fun k => k = x.p ∨ sv'.ownBlock = some k ∨ A.heap.size ≤ k) (w2.setCell ⟨x.p, 5, none⟩ v') W' := hwW'.mono fun k _ hk => by
            rcases hat with e | ⟨g, e, hg⟩
            · exact .inr (.inl (by rw [← e]; exact hk))
            · rw [e] at hk
              have := Option.some.inj hk
              exact .inr (.inr (by have : A2.drew.heap.size = A2.heap.size := rfl; omega))
          have hall' := (hA2'.trans h3).trans h4
          have hsmall : Wrote (fun k => k = x.p ∨ sv'.ownBlock = some k) A W' := hall'.mono fun k hk hs => hs.elim .inl (fun hs => hs.elim .inr (fun hs => by omega))
          have hset : Wrote (fun b => b = x.p ∨ sv.ownBlock = some b ∨ w6.heap.size ≤ b) A W' := hsmall.mono fun k _ hs => hs.elim .inl (fun hs => by
            rcases hsv' with e | ⟨g, e, hg⟩
            · exact .inr (.inl (by rw [← e]; exact hs))
            · rw [e] at hs
              have := Option.some.inj hs
              exact .inr (.inr (by omega)))
          have hk := kep_wrote (n₀ := w0.heap.size) hset (by have := HA.out.below.size; omega) (fun k hs => by
            rcases hs with rfl | e | e
            · exact hl2
            · have := (H.out.stk.lt e).1
              omega
            · have := hb0.size
              omega)
          refine ⟨kf_wrote hsmall fun k hk hs => ?_, hk, ⟨v', _, hW', HFB.out, ?_⟩, HKA.out.trans hk⟩
          · rcases hs with rfl | e
            · exact .inl hpl
            · exact .inr (HA.out.stk.isCells e)
          · rcases hat with e | ⟨g, e, hg⟩
            · rw [e]; exact hsv'
            · exact .inr ⟨g, e, by have : A2.drew.heap.size = A2.heap.size := rfl; omega⟩
        clear hv' hfr hrun hw2 hw3 hfin3 hbfV c5V c5W hat hall
        gi_wp2_with (refine ⟨trivial, ?_⟩; gi_at_call 77; refine (CallsIn.inRound l2 (callsIn_wide.2 HLW.out)).mono ?_; rintro e W' ⟨rfl, hW', hwW'⟩)
        exact HEND.out W' hW' hwW'
    · have hno : (decide (Df.at_ x.s.ori (i / 2) = (i : Int)) && (Df.at_ x.s.par (Cs.to x.es i) != (i : Int))) = false := by
        cases h1 : (decide (Df.at_ x.s.ori (i / 2) = (i : Int)) && (Df.at_ x.s.par (Cs.to x.es i) != (i : Int))) with
        | false => rfl
        | true =>
          rw [Bool.and_eq_true, decide_eq_true_iff, bne_iff_ne] at h1
          exact absurd h1 hbk
      rw [hno] at HBK
      have HNO : Hid (Bl.Fi x.es x.s (BlE.Xp x.es x.s X (pre ++ [(i : Int)])) T S' Y F) := hfA.congr (fun e _ => BlE.Xp.no hbk)
      clear hA hfA hkA hbfA hno hbk
      gi_wp2_with (refine ⟨trivial, ?_⟩; gi_at_call 76; refine (CallsIn.inRound l2 (callsIn_wide.2 HBK.out)).mono ?_; rintro e A1 ⟨rfl, hA1⟩)
      exact ⟨kf_below hA1, (Kep.refl _ _ _).grow hA1 (by have := HA.out.below.size; omega), ⟨sv', S', HA.out.later hA1, HNO.out, hsv'⟩, HKA.out.grow hA1 (by have := HA.out.below.size; omega)⟩
  case done =>
    rintro Dd W hD ⟨⟨sv', S', hW, hfW, -⟩, -⟩ hK
    gi_wp2
    refine ⟨by simp, .inl ⟨_, _, rfl, run_takeDeferred hK, ?_⟩⟩
    refine ⟨_, results_none rfl _ _ _, rfl, S', ⟨sv', yv, D, G, ?_⟩, hfW⟩
    exact OwnFrom.putObj (β := Unit) (B := w6.heap.size) (I := fun _ W => FinIn x w0 W sv' yv D G S' Y F) (fun _ _ _ _ hs hg hr => hs.grown hg hr hb0.size hmbl) (s := ()) _ hW hD hK rfl
  case stop =>
    rintro Dd c pre W _ _ hx _
    exact hx.elim
end Go.Proofs.YtalfpbalekbinaaGreat
