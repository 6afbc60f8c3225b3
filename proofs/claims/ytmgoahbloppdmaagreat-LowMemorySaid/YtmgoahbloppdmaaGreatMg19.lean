import Derived.Test.YtmgoahbloppdmaaGreatMg17
import Derived.Test.YtmgoahbloppdmaaGreatMg18
import Derived.Laws.EntriesVeiled
/-
  leads: the two lowest heights to which an edge leads.
-/
namespace Go.Proofs.YtmgoahbloppdmaaGreat
open Go.RowKit Go.Shelf

attribute [local go_sem] Oper.semAt_some

namespace Lo
def step2 (A1 A2 : List Int) (p : Int × Int) (x : Int) : Int × Int := two1 (two1 p (A1.getD (x.toNat / 2) 0)) (A2.getD (x.toNat / 2) 0)
def steps2 (A1 A2 : List Int) (m : Int) (l : List Int) : Int × Int := l.foldl (step2 A1 A2) (m, m)
theorem steps2_snoc (A1 A2 : List Int) (m : Int) (l : List Int) (x : Int) : steps2 A1 A2 m (l ++ [x]) = step2 A1 A2 (steps2 A1 A2 m l) x := by
  unfold steps2
  rw [List.foldl_append]
  rfl
/-- What leads answers. -/
def lead (n : Nat) (es : List (Int × Int)) (s : Df.St) (A1 A2 : List Int) (i : Nat) : Int × Int :=
  if Df.at_ s.par (Cs.to es i) = (i : Int) then steps2 A1 A2 (Df.at_ s.hei (Cs.fr es i)) (frL n es s (Cs.to es i)) else two1 (Df.at_ s.hei (Cs.fr es i), Df.at_ s.hei (Cs.fr es i)) (Df.at_ s.hei (Cs.to es i))
end Lo

def TwoPost (m : Int) (w : World) (e : Ending) (w' : World) : Prop :=
  ∃ Bl B2, e = .returned (.func (.func 77) #[] #[.pointer (some ⟨Bl, 0, none⟩), .pointer (some ⟨B2, 0, none⟩)]) ∧ w.heap.size ≤ Bl ∧ w.heap.size ≤ B2 ∧ Bl ≠ B2 ∧ Boxed w' Bl 3 (.int .i64 m) ∧ Boxed w' B2 3 (.int .i64 m) ∧ Below w.heap.size w w'

theorem twoLowest_any (m : Int) (w : World) : Calls Tryz.prog 60 #[.int .i64 m] w (TwoPost m w) := by
  go_enter Tryz.func60, Tryz.ntmps60
  go_wp2
  go_ret
  refine ⟨w.heap.size, w.heap.size + 1, rfl, Nat.le_refl _, by omega, by omega, ?_, ?_, ?_⟩
  · exact (Boxed.new w _ _).alloc _
  · have := Boxed.new (w.alloc (.cells #[.int .i64 m] 3)) 3 (.int .i64 m)
    rwa [World.size_alloc] at this
  · exact ((Below.refl _ _).alloc (Nat.le_refl _) _).alloc (by simp) _

theorem wrap_few (k : Nat) (h : k ≤ 4194304 * 4194304) : IntKind.i64.wrap (k : Int) = (k : Int) := by
  simp [IntKind.wrap, IntKind.bits, IntKind.signed]
  omega

theorem wrote_kep {S : Nat → Prop} {n₀ : Nat} {A V : World} (h : Wrote S A V) (hn : n₀ ≤ A.heap.size) (hS : ∀ k, S k → n₀ ≤ k) : Kep n₀ S A V :=
  ⟨h.below hn hS, fun b _ hb _ hs => (h.block b (Array.getElem?_eq_some_iff.1 hb).1 hs).trans hb⟩
theorem wrote_keeps {S : Nat → Prop} {B : Nat} {A V : World} (h : Wrote S A V) (hS : ∀ k, S k → k < B) : KeepsFrom B A V :=
  ⟨h.size, fun k _ hk h0 _ => (h.block k (Array.getElem?_eq_some_iff.1 h0).1 (fun hs => by have := hS k hs; omega)).trans h0⟩

/-- What the operations of a round give. -/
def ldVal (Bl B2 R g1 g2 m X j jh : Nat) (a1 a2 : Int) (q : Int × Int) : Nat → Value
  | 0 => .func (.func 77) #[] #[.pointer (some ⟨Bl, 0, none⟩), .pointer (some ⟨B2, 0, none⟩)]
  | 1 => .pointer (some ⟨R, 0, none⟩)
  | 2 => .slice (some ⟨g1, 0, none⟩) m m
  | 3 => .int .i64 (j : Int)
  | 4 => .int .i64 (jh : Int)
  | 5 => .pointer (some ⟨g1, jh, none⟩)
  | 6 => .int .i64 a1
  | 7 => .pointer (some ⟨R, 1, none⟩)
  | 8 => .slice (some ⟨g2, 0, none⟩) m m
  | 9 => .int .i64 (j : Int)
  | 10 => .int .i64 (jh : Int)
  | 11 => .pointer (some ⟨g2, jh, none⟩)
  | 12 => .int .i64 a2
  | 13 => .slice (some ⟨X, 0, none⟩) 2 2
  | 14 => .tuple #[.int .i64 q.1, .int .i64 q.2]
  | _ => undef

/-- What lies in memory by which have come up. -/
def ldC (Bl B2 : Nat) (a1 a2 : Int) (q : Int × Int) (A : World) (L : Nat → Bool) (V : World) : Prop :=
  if L 14 = true then Boxed V Bl 3 (.int .i64 q.1) ∧ Boxed V B2 3 (.int .i64 q.2) ∧ Wrote (fun k => k = Bl ∨ k = B2) A V
  else if L 13 = true then V = A.drew.alloc (.cells #[.int .i64 a1, .int .i64 a2] 3) else V = A.drew

theorem ldC.wrote {Bl B2 : Nat} {a1 a2 : Int} {q : Int × Int} {A : World} {L : Nat → Bool} {V : World} (h : ldC Bl B2 a1 a2 q A L V) : Wrote (fun k => k = Bl ∨ k = B2) A V := by
  unfold ldC at h
  split at h
  · exact h.2.2
  · split at h
    · rw [h]
      exact (Wrote.refl _ A).drew.alloc _
    · rw [h]
      exact (Wrote.refl _ A).drew
theorem ldC.other {Bl B2 : Nat} {a1 a2 : Int} {q : Int × Int} {A : World} {L : Nat → Bool} {V : World} (h : ldC Bl B2 a1 a2 q A L V) {i : Nat} (h1 : i ≠ 13) (h2 : i ≠ 14) : ldC Bl B2 a1 a2 q A (AnyOrd.updB L i) V := by
  have e1 : AnyOrd.updB L i 13 = L 13 := if_neg (fun e => h1 e.symm)
  have e2 : AnyOrd.updB L i 14 = L 14 := if_neg (fun e => h2 e.symm)
  unfold ldC at h ⊢
  rw [e1, e2]
  exact h

section
variable {p : Nat} {av : Value} {n : Nat} {es : List (Int × Int)} {f : For} {s : Df.St}

def LeadPost (q : Int × Int) (w : World) (e : Ending) (w' : World) : Prop := e = .returned (.tuple #[.int .i64 q.1, .int .i64 q.2]) ∧ Below w.heap.size w w'

set_option maxRecDepth 100000 in
set_option maxHeartbeats 16000000 in
theorem leads_any (i : Nat) (g1 g2 : Nat) (A1 A2 : List Int) (w : World) (hd : Wd w p av n es f s) (hi : i < 2 * es.length) (h1 : IntsIn w g1 A1) (h2 : IntsIn w g2 A2) (l1 : A1.length = es.length) (l2 : A2.length = es.length) :
    Calls Tryz.prog 36 #[.pointer (some ⟨p, 0, none⟩), .int .i64 (i : Int), .agg #[.slice (some ⟨g1, 0, none⟩) es.length es.length, .slice (some ⟨g2, 0, none⟩) es.length es.length, .slice none 0 0, .slice none 0 0]] w (LeadPost (Lo.lead n es s A1 A2 i) w) := by
  have hends := Cs.half_lt hd.val hi
  have hfew := hd.val.few
  obtain ⟨W, hW⟩ : ∃ W, W = w.alloc (.cells #[.slice (some ⟨g1, 0, none⟩) es.length es.length, .slice (some ⟨g2, 0, none⟩) es.length es.length, .slice none 0 0, .slice none 0 0] 31) := ⟨_, rfl⟩
  have hbW : Below w.heap.size w W := by rw [hW]; exact (Below.refl _ _).alloc (Nat.le_refl _) _
  have hWsz : W.heap.size = w.heap.size + 1 := by rw [hW]; simp
  have hWl : W.heap[w.heap.size]? = some (.cells #[.slice (some ⟨g1, 0, none⟩) es.length es.length, .slice (some ⟨g2, 0, none⟩) es.length es.length, .slice none 0 0, .slice none 0 0] 31 (0, 0)) := by rw [hW]; exact heap_alloc_new w _
  obtain ⟨m, hm⟩ : ∃ m, Df.at_ s.hei (Cs.fr es i) = m := ⟨_, rfl⟩
  have HBG : Hid (Calls Tryz.prog 37 #[.pointer (some ⟨p, 0, none⟩), .int .i64 (i : Int)] W fun e w' => e = .returned (.int .i64 m) ∧ Below W.heap.size W w') := by
    have := begins_any i hi (hd.later hbW)
    rw [hm] at this
    exact this
  have HTW : Hid (∀ V, Calls Tryz.prog 60 #[.int .i64 m] V (TwoPost m V)) := fun V => twoLowest_any m V
  have HBK : Hid (∀ V, Below w.heap.size w V → Calls Tryz.prog 44 #[.pointer (some ⟨p, 0, none⟩), .int .i64 (i : Int)] V fun e w' => e = .returned (.bool (Df.at_ s.par (Cs.to es i) != (i : Int))) ∧ Below V.heap.size V w') := fun V hV => back1_any i hi (hd.later hV)
  have HEN : Hid (∀ V, Below w.heap.size w V → Calls Tryz.prog 47 #[.pointer (some ⟨p, 0, none⟩), .int .i64 (i : Int)] V fun e w' => e = .returned (.int .i64 (Df.at_ s.hei (Cs.to es i))) ∧ Below V.heap.size V w') := fun V hV => ends_any i hi (hd.later hV)
  have HTO : Hid (∀ V, Below w.heap.size w V → Calls Tryz.prog 46 #[av, .int .i64 (i : Int)] V fun e w' => e = .returned (.int .i64 (Cs.to es i : Int)) ∧ w' = V) := fun V hV => (to_any av n es (i : Int) V (hd.later hV).adj).mono fun e w' ⟨he, hw⟩ => ⟨by rw [he, Cs.toI_in hi], hw⟩
  have HFR : Hid (∀ V, Calls Tryz.prog 35 #[.pointer (some ⟨p, 0, none⟩), .int .i64 (Cs.to es i : Int)] V (FromPost p (Cs.to es i : Int) V)) := fun V => wfrom_any p _ V
  have HWD : Hid (∀ V, Below w.heap.size w V → Wd V p av n es f s) := fun V hV => hd.later hV
  have HI1 : Hid (∀ V, Below w.heap.size w V → IntsIn V g1 A1 ∧ IntsIn V g2 A2) := fun V hV => ⟨h1.later hV, h2.later hV⟩
  have HWW := Nu.hid hW
  have HD := Nu.hid hd
  have HL : Hid (Lo.lead n es s A1 A2 i = if Df.at_ s.par (Cs.to es i) = (i : Int) then Lo.steps2 A1 A2 m (Lo.frL n es s (Cs.to es i)) else Lo.two1 (m, m) (Df.at_ s.hei (Cs.to es i))) := by
    show _ = _
    unfold Lo.lead
    rw [hm]
  have HG : Hid (g1 < w.heap.size ∧ g2 < w.heap.size) := ⟨h1.lt, h2.lt⟩
  obtain ⟨t, ht⟩ : ∃ t, Cs.to es i = t := ⟨_, rfl⟩
  rw [ht] at HBK HEN HTO HFR HL
  have htn : t < n := by rw [← ht]; exact hends.2
  obtain ⟨pt, hpt⟩ : ∃ pt, Df.at_ s.par t = pt := ⟨_, rfl⟩
  obtain ⟨z, hz⟩ : ∃ z, Df.at_ s.hei t = z := ⟨_, rfl⟩
  rw [hpt] at HBK HL
  rw [hz] at HEN HL
  clear hW hd h1 h2 hm ht hends hpt hz
  refine (callsIn_wide (n := 9)).1 ?_
  refine callsIn_of_wp_marks Tryz.func36 rfl trivial ?_ rfl
  simp only [Tryz.ntmps36, List.size_toArray, List.length_cons, List.length_nil, Nat.reduceAdd, Nat.reduceSub, Array.replicate_succ, Array.replicate_zero, List.push_toArray, List.append_toArray, List.nil_append, List.cons_append]
  refine wpIn_wide.2 ?_
  go_wp2_with (first | (go_at_call 37; rw [← HWW.out]; refine HBG.out.mono ?_; rintro e w1 ⟨rfl, hb1⟩) | (go_at_call 60; refine (HTW.out _).mono ?_; rintro e w2 ⟨Bl, B2, rfl, hl1, hl2, hne, bl, b2, hb2⟩; refine Hid.out ?_))
  refine Nu.hid ?_
  have hbw1 : Below w.heap.size w w1 := hbW.trans (hb1.mono hbW.size)
  have hbw2 : Below w.heap.size w w2 := hbw1.trans (hb2.mono hbw1.size)
  have hlo2 : w2.heap[w.heap.size]? = some (.cells #[.slice (some ⟨g1, 0, none⟩) es.length es.length, .slice (some ⟨g2, 0, none⟩) es.length es.length, .slice none 0 0, .slice none 0 0] 31 (0, 0)) := (hb2.block _ (by have := hb1.size; omega)).trans ((hb1.block _ (by omega)).trans hWl)
  have hs1 := hb1.size
  have hs2 := hb2.size
  obtain ⟨w3, hw3⟩ : ∃ w3, w3 = w2.alloc (.cells #[.func (.func 77) #[] #[.pointer (some ⟨Bl, 0, none⟩), .pointer (some ⟨B2, 0, none⟩)]] 93) := ⟨_, rfl⟩
  have HW3 := Nu.hid hw3
  have hbw3 : Below w2.heap.size w2 w3 := by rw [hw3]; exact (Below.refl _ _).alloc (Nat.le_refl _) _
  have hk3 : Boxed w3 w2.heap.size 93 (.func (.func 77) #[] #[.pointer (some ⟨Bl, 0, none⟩), .pointer (some ⟨B2, 0, none⟩)]) := by rw [hw3]; exact Boxed.new _ _ _
  have hs3 : w3.heap.size = w2.heap.size + 1 := by rw [hw3]; simp
  have bl3 : Boxed w3 Bl 3 (.int .i64 m) := (hbw3.block _ bl.lt).trans bl
  have b23 : Boxed w3 B2 3 (.int .i64 m) := (hbw3.block _ b2.lt).trans b2
  have hbl := bl.lt
  have hb2l := b2.lt
  have hB3 : Below w.heap.size w w3 := hbw2.trans (hbw3.mono hbw2.size)
  have HB3 := Nu.hid hB3
  have HBK3 := Nu.hid (HBK.out w3 hB3)
  clear hw3 hb1 hb2 bl b2
  by_cases hback : pt = (i : Int)
  · rw [if_pos hback] at HL
    go_wp2_with (go_at_call 44; rw [← HW3.out]; refine HBK3.out.mono ?_; rintro e w4 ⟨rfl, hb4⟩; refine Hid.out ?_)
    refine Nu.hid ?_
    have hB4 : Below w.heap.size w w4 := hB3.trans (hb4.mono hB3.size)
    have bl4 : Boxed w4 Bl 3 (.int .i64 m) := (hb4.block _ bl3.lt).trans bl3
    have b24 : Boxed w4 B2 3 (.int .i64 m) := (hb4.block _ b23.lt).trans b23
    have hk4 : Boxed w4 w2.heap.size 93 (.func (.func 77) #[] #[.pointer (some ⟨Bl, 0, none⟩), .pointer (some ⟨B2, 0, none⟩)]) := (hb4.block _ hk3.lt).trans hk3
    have hlo4 := (hb4.block _ (by omega)).trans ((hbw3.block _ (by omega)).trans hlo2)
    have c0 := (HWD.out w4 hB4).c0
    have HTO4 := Nu.hid (HTO.out w4 hB4)
    have hs4 := hb4.size
    have HB4 := Nu.hid hB4
    clear hb4 hbw1 hbw2 hlo2 hbw3 bl3 b23 hk3 hB3
    go_wp2_with (first | (go_at_call 46; refine HTO4.out.mono ?_; rintro e w5 ⟨rfl, rfl⟩) | (go_at_call 35; refine (HFR.out _).mono ?_; rintro e w5 ⟨Bw, Bv, rfl, hBw, hBv, bw, bv, hb5⟩))
    refine (wpIn_wide (n := 9)).1 ?_
    have hB5 : Below w.heap.size w w5 := hB4.trans (hb5.mono hB4.size)
    have hs5 := hb5.size
    have bl5 : Boxed w5 Bl 3 (.int .i64 m) := (hb5.block _ bl4.lt).trans bl4
    have b25 : Boxed w5 B2 3 (.int .i64 m) := (hb5.block _ b24.lt).trans b24
    have hk5 : Boxed w5 w2.heap.size 93 (.func (.func 77) #[] #[.pointer (some ⟨Bl, 0, none⟩), .pointer (some ⟨B2, 0, none⟩)]) := (hb5.block _ hk4.lt).trans hk4
    have hlo5 := (hb5.block _ (by omega)).trans hlo4
    have hSlt : ∀ b, (b = Bl ∨ b = B2) → b < w5.heap.size := fun b hb => by rcases hb with rfl | rfl <;> omega
    have hgl := HG.out
    refine it_out (n := 9) (gf := 58) (lb := #[.pointer (some ⟨Bw, 0, none⟩), .pointer (some ⟨Bv, 0, none⟩)]) (by rfl) (enters_of Tryz.func58 (by kernel_rfl) rfl)
      (from_it t Bw Bv (fun b => b = Bl ∨ b = B2) w w5 HD.out hB5 htn bw bv (by omega) (fun b hb => .inl (hSlt b hb))) hB5.size (fun _ => rfl)
      (fun pre X => (Boxed X Bl 3 (.int .i64 (Lo.steps2 A1 A2 m pre).1) ∧ Boxed X B2 3 (.int .i64 (Lo.steps2 A1 A2 m pre).2)) ∧ Kep w.heap.size (fun b => b = Bl ∨ b = B2) w5 X) (fun _ _ _ => False)
      (OwnFrom.and (OwnFrom.and (Own.from (boxed_own _ _ _) _) (Own.from (boxed_own _ _ _) _)) (Kep.own hB5.size hB5.size)) (fun _ _ _ _ _ hs _ _ => hs) ⟨⟨bl5, b25⟩, Kep.refl _ _ _⟩
      (fun x a' _ => a'.tmps.size = 53 ∧ a'.eval (.tmp 5) = .pointer (some ⟨w.heap.size, 0, none⟩) ∧ a'.eval (.tmp 8) = .pointer (some ⟨w2.heap.size, 0, none⟩) ∧ a'.eval (.tmp 9) = .int .i64 x)
      (fun x a' => ownFrom_pure _ _) ?assign ?body ?done ?stop
    case assign =>
      intro l2 pre x X K _ hi hK
      gi_wp2
      exact hK _ _ (KeepsFrom.refl _ _) (Kep.refl _ _ _) hi ⟨rfl, rfl, rfl, rfl⟩
    case body =>
      rintro l2 pre x a' A ⟨hl2, -⟩ _ hpx ⟨⟨c1, c2⟩, hkp⟩ ⟨asz, a5, a8, a9⟩
      have hx := hpx.subset (List.mem_append_right pre (List.mem_singleton.2 rfl))
      unfold Lo.frL at hx
      obtain ⟨j, rfl, hj, -⟩ := (mem_outZ htn).1 (List.mem_filter.1 hx).1
      obtain ⟨jh, hjh⟩ : ∃ jh, j / 2 = jh := ⟨_, rfl⟩
      have hAw : Below w.heap.size w A := hB5.trans hkp.1
      obtain ⟨q1, q2⟩ := HI1.out A hAw
      obtain ⟨a1, ha1⟩ : ∃ a1, A1[jh]? = some a1 := ⟨_, List.getElem?_eq_getElem (by omega)⟩
      obtain ⟨a2, ha2⟩ : ∃ a2, A2[jh]? = some a2 := ⟨_, List.getElem?_eq_getElem (by omega)⟩
      have hst : Lo.steps2 A1 A2 m (pre ++ [(j : Int)]) = Lo.two1 (Lo.two1 (Lo.steps2 A1 A2 m pre) a1) a2 := by
        rw [Lo.steps2_snoc]
        unfold Lo.step2
        rw [Int.toNat_natCast, hjh, List.getD_eq_getElem?_getD, ha1, List.getD_eq_getElem?_getD, ha2]
        rfl
      have hcl : A.heap[w.heap.size]? = some (.cells #[.slice (some ⟨g1, 0, none⟩) es.length es.length, .slice (some ⟨g2, 0, none⟩) es.length es.length, .slice none 0 0, .slice none 0 0] 31 (0, 0)) := hkp.2 _ _ hlo5 rfl (by omega)
      have hck : Boxed A w2.heap.size 93 (.func (.func 77) #[] #[.pointer (some ⟨Bl, 0, none⟩), .pointer (some ⟨B2, 0, none⟩)]) := hkp.boxed hk5 (by omega)
      have hAs : w5.heap.size ≤ A.heap.size := hkp.1.size
      gi_wp2
      refine wpIn_region_any (by kernel_rfl) ?_
      refine AnyOrd.anyL (ldVal Bl B2 w.heap.size g1 g2 es.length A.heap.size j jh a1 a2 (Lo.steps2 A1 A2 m (pre ++ [(j : Int)]))) (ldC Bl B2 a1 a2 (Lo.steps2 A1 A2 m (pre ++ [(j : Int)])) A) 53 asz (by kernel_rfl) (by kernel_rfl) rfl ?_ ?_
      · intro i o L V ev ho hLi hC haft hdc he1 he2 hec _
        have hW := hC.wrote
        have k0 := Boxed.cell ((hW.block w2.heap.size hck.lt (by omega)).trans hck)
        have r0 : V.cell? ⟨w.heap.size, 0, none⟩ = some (.slice (some ⟨g1, 0, none⟩) es.length es.length) := by simp [World.cell?, (hW.block w.heap.size (lt_of_block hcl) (by omega)).trans hcl]
        have r1 : V.cell? ⟨w.heap.size, 1, none⟩ = some (.slice (some ⟨g2, 0, none⟩) es.length es.length) := by simp [World.cell?, (hW.block w.heap.size (lt_of_block hcl) (by omega)).trans hcl]
        have d1 := (hW.ints q1 (by omega)).cell ha1
        have d2 := (hW.ints q2 (by omega)).cell ha2
        have htd : (j : Int).tdiv 2 = (jh : Int) := by rw [Int.tdiv_eq_ediv_of_nonneg (by omega)]; omega
        have j0 : (0 : Int) ≤ (jh : Int) := by omega
        have j1 : (jh : Int) < (es.length : Int) := by omega
        have hc : i = 0 ∨ i = 1 ∨ i = 2 ∨ i = 3 ∨ i = 4 ∨ i = 5 ∨ i = 6 ∨ i = 7 ∨ i = 8 ∨ i = 9 ∨ i = 10 ∨ i = 11 ∨ i = 12 ∨ i = 13 ∨ i = 14 := by
          have : i < 15 := (Array.getElem?_eq_some_iff.1 ho).1
          omega
        rcases hc with rfl | rfl | rfl | rfl | rfl | rfl | rfl | rfl | rfl | rfl | rfl | rfl | rfl | rfl | rfl <;> obtain rfl := Option.some.inj ho
        · have e1 := (he2 8 (by kernel_rfl)).trans a8
          exact AnyOrd.gives_value (w' := V) (by simp [execOp, go_sem, e1, k0]; rfl) ⟨rfl, hC.other (by decide) (by decide)⟩
        · have e1 := (he2 5 (by kernel_rfl)).trans a5
          exact AnyOrd.gives_value (w' := V) (by simp [execOp, go_sem, e1]; rfl) ⟨rfl, hC.other (by decide) (by decide)⟩
        · have e1 : ev (.tmp 35) = .pointer (some ⟨w.heap.size, 0, none⟩) := he1 1 35 (by omega) rfl (by decide)
          exact AnyOrd.gives_value (w' := V) (by simp [execOp, go_sem, e1, r0]; rfl) ⟨rfl, hC.other (by decide) (by decide)⟩
        · have e1 := (he2 9 (by kernel_rfl)).trans a9
          exact AnyOrd.gives_value (w' := V) (by simp [execOp, go_sem, e1]; rfl) ⟨rfl, hC.other (by decide) (by decide)⟩
        · have e1 : ev (.tmp 37) = .int .i64 (j : Int) := he1 3 37 (by omega) rfl (by decide)
          exact AnyOrd.gives_value (v := .int .i64 (jh : Int)) (w' := V) (by simp [execOp, go_sem, e1, htd, hec]; exact wrap_few jh (by omega)) ⟨rfl, hC.other (by decide) (by decide)⟩
        · have e1 : ev (.tmp 36) = .slice (some ⟨g1, 0, none⟩) es.length es.length := he1 2 36 (by omega) rfl (by decide)
          have e2 : ev (.tmp 38) = .int .i64 (jh : Int) := he1 4 38 (by omega) rfl (by decide)
          exact AnyOrd.gives_value (v := .pointer (some ⟨g1, jh, none⟩)) (w' := V) (by simp [execOp, go_sem, e1, e2, j0, j1]) ⟨rfl, hC.other (by decide) (by decide)⟩
        · have e1 : ev (.tmp 39) = .pointer (some ⟨g1, jh, none⟩) := he1 5 39 (by omega) rfl (by decide)
          exact AnyOrd.gives_value (v := .int .i64 a1) (w' := V) (by simp [execOp, go_sem, e1, d1]) ⟨rfl, hC.other (by decide) (by decide)⟩
        · have e1 := (he2 5 (by kernel_rfl)).trans a5
          exact AnyOrd.gives_value (w' := V) (by simp [execOp, go_sem, e1]; rfl) ⟨rfl, hC.other (by decide) (by decide)⟩
        · have e1 : ev (.tmp 41) = .pointer (some ⟨w.heap.size, 1, none⟩) := he1 7 41 (by omega) rfl (by decide)
          exact AnyOrd.gives_value (w' := V) (by simp [execOp, go_sem, e1, r1]; rfl) ⟨rfl, hC.other (by decide) (by decide)⟩
        · have e1 := (he2 9 (by kernel_rfl)).trans a9
          exact AnyOrd.gives_value (w' := V) (by simp [execOp, go_sem, e1]; rfl) ⟨rfl, hC.other (by decide) (by decide)⟩
        · have e1 : ev (.tmp 43) = .int .i64 (j : Int) := he1 9 43 (by omega) rfl (by decide)
          exact AnyOrd.gives_value (v := .int .i64 (jh : Int)) (w' := V) (by simp [execOp, go_sem, e1, htd, hec]; exact wrap_few jh (by omega)) ⟨rfl, hC.other (by decide) (by decide)⟩
        · have e1 : ev (.tmp 42) = .slice (some ⟨g2, 0, none⟩) es.length es.length := he1 8 42 (by omega) rfl (by decide)
          have e2 : ev (.tmp 44) = .int .i64 (jh : Int) := he1 10 44 (by omega) rfl (by decide)
          exact AnyOrd.gives_value (v := .pointer (some ⟨g2, jh, none⟩)) (w' := V) (by simp [execOp, go_sem, e1, e2, j0, j1]) ⟨rfl, hC.other (by decide) (by decide)⟩
        · have e1 : ev (.tmp 45) = .pointer (some ⟨g2, jh, none⟩) := he1 11 45 (by omega) rfl (by decide)
          exact AnyOrd.gives_value (v := .int .i64 a2) (w' := V) (by simp [execOp, go_sem, e1, d2]) ⟨rfl, hC.other (by decide) (by decide)⟩
        · have e1 : ev (.tmp 40) = .int .i64 a1 := he1 6 40 (by omega) rfl (by decide)
          have e2 : ev (.tmp 46) = .int .i64 a2 := he1 12 46 (by omega) rfl (by decide)
          have h14 : L 14 = false := by
            cases h : L 14 with
            | false => rfl
            | true =>
              have := hdc 14 _ rfl h ⟨13, .data⟩ (by simp) rfl
              rw [hLi] at this
              cases this
          have hV : V = A.drew := by
            unfold ldC at hC
            rw [h14, hLi] at hC
            exact hC
          refine AnyOrd.gives_value (v := .slice (some ⟨A.heap.size, 0, none⟩) 2 2) (w' := V.alloc (.cells #[.int .i64 a1, .int .i64 a2] 3)) (by rw [hV]; simp [execOp, go_sem, e1, e2]) ⟨rfl, ?_⟩
          unfold ldC
          rw [show AnyOrd.updB L 13 14 = false from h14, show AnyOrd.updB L 13 13 = true from rfl, hV]
          rfl
        · have e1 : ev (.tmp 34) = .func (.func 77) #[] #[.pointer (some ⟨Bl, 0, none⟩), .pointer (some ⟨B2, 0, none⟩)] := he1 0 34 (by omega) rfl (by decide)
          have e2 : ev (.tmp 47) = .slice (some ⟨A.heap.size, 0, none⟩) 2 2 := he1 13 47 (by omega) rfl (by decide)
          have h13 : L 13 = true := haft ⟨13, .data⟩ (by simp) rfl
          have hV : V = A.drew.alloc (.cells #[.int .i64 a1, .int .i64 a2] 3) := by
            unfold ldC at hC
            rw [hLi, h13] at hC
            exact hC
          have hen : ∀ args w, (callFunc 77 args).run Tryz.prog w = .ok (.enter 77 args) w := enters_of Tryz.func77 (by kernel_rfl) rfl
          have hrun : ∀ o : Oper, o.op = .call { callee := .value (.tmp 34), args := #[.tmp 47], argTypes := #[25] } → (execOp ev o).run Tryz.prog V = .ok (.enter 77 #[.slice (some ⟨A.heap.size, 0, none⟩) 2 2, .pointer (some ⟨Bl, 0, none⟩), .pointer (some ⟨B2, 0, none⟩)]) V := fun o ho => by
            simp [execOp, ho, go_sem, e1, e2, hen]
          unfold AnyOrd.Gives
          rw [hrun _ rfl]
          have hib : IntsIn V A.heap.size [a1, a2] := ⟨[], by rw [hV]; exact heap_alloc_new A.drew _⟩
          have hll := c1.lt
          have hl2' := c2.lt
          refine (keep_any Bl B2 (Lo.steps2 A1 A2 m pre) (some ⟨A.heap.size, 0, none⟩) 2 [a1, a2] V hne ?_ ?_ (by simp) (fun X hX' k x hk => ?_)).mono fun e V' hk => ⟨_, hk.1, ?_, ?_⟩
          · rw [hV]; exact Boxed.alloc (W := A.drew) c1 _
          · rw [hV]; exact Boxed.alloc (W := A.drew) c2 _
          · refine ⟨A.heap.size, 0, rfl, ?_⟩
            rw [Nat.zero_add]
            exact (hX'.ints hib (by omega)).cell hk
          · show Value.tuple _ = Value.tuple _
            rw [hst]
            rfl
          · unfold ldC
            rw [show AnyOrd.updB L 14 14 = true from rfl, if_pos rfl, hst]
            exact ⟨hk.2.1, hk.2.2.1, hW.trans hk.2.2.2⟩
      · intro L V a3 hall hC
        unfold ldC at hC
        rw [if_pos (hall 14 (by decide))] at hC
        obtain ⟨z1, z2, hw⟩ := hC
        have hk := wrote_kep (n₀ := w.heap.size) hw (by omega) (fun k hk => by rcases hk with rfl | rfl <;> omega)
        exact ⟨wrote_keeps hw (fun k hk => by rcases hk with rfl | rfl <;> omega), hk, ⟨z1, z2⟩, hkp.trans hk⟩
    case done =>
      rintro D X hD ⟨⟨c1, c2⟩, hkz⟩ hK
      have hck := (hkz.boxed hk5 (by omega)).cell
      have HKP := Nu.hid (keep_any Bl B2 _ none 0 [] X hne c1 c2 (by simp) (fun _ _ j x hj => by simp at hj))
      have hKX : Below w.heap.size w X := hB5.trans hkz.1
      have HKX := Nu.hid hKX
      have HK := Nu.hid hK
      go_wp2_with (go_at_call 77; refine HKP.out.mono ?_; rintro e X2 ⟨rfl, x1, x2, hw⟩)
      have hb2 : Below w.heap.size w X2 := HKX.out.trans (hw.below HKX.out.size (fun k hk' => by rcases hk' with rfl | rfl <;> omega))
      have hK2 : X2.heap[D]? = some (.deferred (some [])) := (hw.block D (lt_of_block HK.out) (by omega)).trans HK.out
      refine ⟨by simp, .inl ⟨_, _, rfl, run_takeDeferred hK2, ?_⟩⟩
      refine ⟨_, results_tmp2 rfl _ _ _, ?_⟩
      rw [HL.out]
      exact ⟨rfl, hb2.trans (belowK_b (w := w) (Nat.le_refl _) X2 D _ _ (by have := hB5.size; omega) hK2 rfl rfl)⟩
    case stop =>
      rintro D c pre X _ _ hx _
      exact hx.elim
  · rw [if_neg hback] at HL
    go_wp2_with (go_at_call 44; rw [← HW3.out]; refine HBK3.out.mono ?_; rintro e w4 ⟨rfl, hb4⟩; refine Hid.out ?_)
    refine Nu.hid ?_
    have hB4 : Below w.heap.size w w4 := hB3.trans (hb4.mono hB3.size)
    have bl4 : Boxed w4 Bl 3 (.int .i64 m) := (hb4.block _ bl3.lt).trans bl3
    have b24 : Boxed w4 B2 3 (.int .i64 m) := (hb4.block _ b23.lt).trans b23
    have hk4 : Boxed w4 w2.heap.size 93 (.func (.func 77) #[] #[.pointer (some ⟨Bl, 0, none⟩), .pointer (some ⟨B2, 0, none⟩)]) := (hb4.block _ hk3.lt).trans hk3
    have hbd : Below w4.heap.size w4 w4.drew := (Below.refl _ _).drew
    have HEN4 : Hid (∀ V, Below w4.heap.size w4 V → Calls Tryz.prog 47 #[.pointer (some ⟨p, 0, none⟩), .int .i64 (i : Int)] V fun e w' => e = .returned (.int .i64 z) ∧ Below V.heap.size V w') := fun V hV => HEN.out V (hB4.trans (hV.mono hB4.size))
    have HKP : Hid (∀ V, Below w4.heap.size w4 V → Calls Tryz.prog 77 #[.slice (some ⟨V.heap.size, 0, none⟩) 1 1, .pointer (some ⟨Bl, 0, none⟩), .pointer (some ⟨B2, 0, none⟩)] (V.alloc (.cells #[.int .i64 z] 3)) fun e V' => e = .returned (.tuple #[.int .i64 (Lo.two1 (m, m) z).1, .int .i64 (Lo.two1 (m, m) z).2]) ∧ V'.cell? ⟨w2.heap.size, 0, none⟩ = some (.func (.func 77) #[] #[.pointer (some ⟨Bl, 0, none⟩), .pointer (some ⟨B2, 0, none⟩)]) ∧ Below w.heap.size w V') := fun V hV => by
      have hsV := hV.size
      have hlk := hk4.lt
      have hll := bl4.lt
      have hl2' := b24.lt
      have hX : Below V.heap.size V (V.alloc (.cells #[.int .i64 z] 3)) := (Below.refl _ _).alloc (Nat.le_refl _) _
      have hX4 : Below w4.heap.size w4 (V.alloc (.cells #[.int .i64 z] 3)) := hV.trans (hX.mono hV.size)
      have hib : IntsIn (V.alloc (.cells #[.int .i64 z] 3)) V.heap.size [z] := ⟨[], heap_alloc_new V _⟩
      refine (keep_any Bl B2 (m, m) (some ⟨V.heap.size, 0, none⟩) 1 [z] _ hne ((hX4.block _ bl4.lt).trans bl4) ((hX4.block _ b24.lt).trans b24) (by simp) (fun X hX' j x hj => ?_)).mono fun e V' hk => ?_
      · refine ⟨V.heap.size, 0, rfl, ?_⟩
        rw [Nat.zero_add]
        exact (hX'.ints hib (by omega)).cell hj
      · refine ⟨hk.1, Boxed.cell ((hk.2.2.2.block w2.heap.size (by simp; omega) (by omega)).trans ((hX4.block _ hk4.lt).trans hk4)), ?_⟩
        have h1 : Below w.heap.size w (V.alloc (.cells #[.int .i64 z] 3)) := hB4.trans (hX4.mono hB4.size)
        exact h1.trans (hk.2.2.2.below h1.size (fun k hk' => by rcases hk' with rfl | rfl <;> omega))
    have HS : Hid (∀ V, Below w4.heap.size w4 V → V.cell? ⟨w2.heap.size, 0, none⟩ = some (.func (.func 77) #[] #[.pointer (some ⟨Bl, 0, none⟩), .pointer (some ⟨B2, 0, none⟩)])) := fun V hV => Boxed.cell ((hV.block _ hk4.lt).trans hk4)
    clear hb4 hbw1 hbw2 hlo2 hbw3 bl3 b23 hk3 hB3
    go_wp2_with fail
    go_region_held3 (fun V => V.cell? ⟨w2.heap.size, 0, none⟩ = some (.func (.func 77) #[] #[.pointer (some ⟨Bl, 0, none⟩), .pointer (some ⟨B2, 0, none⟩)]))
      (first | assumption | exact HS.out _ (by first | assumption | exact hbd) | exact HS.out _ (Below.alloc (by first | assumption | exact hbd) (Below.size (by first | assumption | exact hbd)) _))
      ((first | (go_at_call 47; refine (HEN4.out _ (by first | assumption | exact hbd)).mono ?_; rintro e V1 ⟨rfl, hv1⟩; have hb1 : Below w4.heap.size w4 V1 := Below.trans (by first | assumption | exact hbd) (hv1.mono (Below.size (by first | assumption | exact hbd)))) | (go_at_call 77; refine (HKP.out _ (by first | assumption | exact hbd)).mono ?_; rintro e V2 ⟨rfl, hc2, hbb⟩)))
    all_goals
      go_wp2
      exact ⟨_, results_tmp2 rfl _ _ _, by rw [HL.out]; exact ⟨rfl, hbb⟩⟩
end

end Go.Proofs.YtmgoahbloppdmaaGreat
