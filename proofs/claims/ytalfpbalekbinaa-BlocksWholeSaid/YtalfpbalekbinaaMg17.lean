import Derived.Test.YtalfpbalekbinaaMg15
import Derived.Test.YtalfpbalekbinaaMg16
import Derived.OwnWalk
import Derived.Sort.Grow
/-
  A region that draws its order, each of whose operations gives a value of its own, known ahead; in no round.
-/
namespace Go.Proofs.Ytalfpbalekbinaa
open Go.RowKit

namespace AnyOrd

def updB (L : Nat → Bool) (i : Nat) : Nat → Bool := fun j => if j = i then true else L j

theorem part_all {ops : Array Oper} {a0 : Act} {ρ : Nat → Value} {L : Nat → Bool} : ∀ {k : Nat}, (∀ i, i < k → L i = true) → part ops a0 ρ L k = canon ops a0 ρ k
  | 0, _ => rfl
  | k + 1, h => by
    unfold part canon
    rw [if_pos (h k (by omega)), part_all fun i hi => h i (by omega)]

theorem anyP {P : Program} {ops : Array Oper} {Q : Exit → Act → World → Prop} {a0 : Act} {w0 : World} (val : Nat → Value) (C : (Nat → Bool) → World → Prop) (N : Nat) (hN : a0.tmps.size = N) (hsh : shape ops ops.size (fun _ => []) = true)
    (h00 : C (fun _ => false) w0)
    (hstep : ∀ i o (L : Nat → Bool) w (ev : Operand → Value), ops[i]? = some o → L i = false → C L w → (∀ e ∈ o.after, Region.binds .any e = true → L e.on = true) → (∀ j o', ops[j]? = some o' → L j = true → ∀ e ∈ o'.after, Region.binds .any e = true → L e.on = true) →
      (∀ j t, j < i → dst ops j = some t → t < N → ev (.tmp t) = val j) → (∀ t, ((List.range i).all fun j => dst ops j != some t) = true → ev (.tmp t) = a0.eval (.tmp t)) → (∀ v, ev (.const v) = v) → (∀ f, ev (.func f) = .func (.func f) #[] #[]) →
      Gives P o ev w fun v w' => v = val i ∧ C (updB L i) w')
    (hend : ∀ L w, (∀ i, i < ops.size → L i = true) → C L w → Q .normal (canon ops a0 val ops.size) w) :
    wpAny P .any ops Q ops.size (Array.replicate ops.size false) a0 w0 := by
  have hs := fun i (hi : i < ops.size) => List.all_eq_true.1 hsh i (List.mem_range.2 hi)
  have hlt : ∀ {j t}, dst ops j = some t → j < ops.size := fun {j t} h => by
    rcases Nat.lt_or_ge j ops.size with h1 | h1
    · exact h1
    · unfold dst at h; rw [Array.getElem?_eq_none h1] at h; cases h
  have hone : ∀ i j t, i ≠ j → dst ops j = some t → dst ops i ≠ some t := fun i j t hij hj hi => by
    have h1 := hs j (hlt hj)
    dsimp only at h1
    cases ho : ops[j]? with
    | none => rw [ho] at h1; cases h1
    | some o =>
      have hd : o.dst = some t := by unfold dst at hj; rw [ho] at hj; exact hj
      rw [ho] at h1
      simp only [Bool.and_eq_true] at h1
      have h2 := h1.1
      rw [hd] at h2
      have h3 := List.all_eq_true.1 h2 i (List.mem_range.2 (hlt hi))
      simp only [Bool.or_eq_true, beq_iff_eq, bne_iff_ne] at h3
      rcases h3 with h3 | h3
      · exact hij h3
      · exact h3 hi
  have hop : ∀ i, i < ops.size → ∃ o, ops[i]? = some o ∧ o.guard = none ∧ (∀ cs b, o.op ≠ .select cs b) ∧
      (∀ t, Operand.tmp t ∈ o.op.operands → ∀ j, j < ops.size → dst ops j = some t → j < i ∧ ∃ e ∈ o.after, Region.binds .any e = true ∧ e.on = j) ∧ (∀ e ∈ o.after, Region.binds .any e = true → e.on < i) := fun i hi => by
    have h1 := hs i hi
    dsimp only at h1
    cases ho : ops[i]? with
    | none => rw [ho] at h1; cases h1
    | some o =>
      rw [ho] at h1
      simp only [Bool.and_eq_true, if_pos hi] at h1
      obtain ⟨_, ⟨⟨⟨g1, g2⟩, g4⟩, _⟩, g6⟩ := h1
      refine ⟨o, rfl, by simpa using g1, (fun cs b hsel => by rw [hsel] at g2; cases g2), fun t ht j hj hd => ?_, fun e he hb => ?_⟩
      · have h2 := List.all_eq_true.1 g4 (.tmp t) (by simpa using ht)
        dsimp only at h2
        have h3 := List.all_eq_true.1 h2 j (List.mem_range.2 hj)
        simp only [Bool.or_eq_true, bne_iff_ne, Bool.and_eq_true, decide_eq_true_eq, List.any_eq_true, beq_iff_eq] at h3
        rcases h3 with h3 | ⟨h3, e, he, h4⟩
        · exact absurd hd h3
        · exact ⟨h3, e, by simpa using he, h4⟩
      · have h2 := Array.all_eq_true_iff_forall_mem.1 g6 e he
        rw [hb] at h2
        simpa using h2
  have fin : ∀ (listed : Array Bool), listed.size = ops.size → Region.ready .any ops listed = [] → ∀ i, i < ops.size → listed.getD i false = true := by
    intro listed hl hr i
    induction i using Nat.strongRecOn with
    | _ i ih =>
      intro hi
      by_cases hb : listed.getD i false = true
      · exact hb
      · exfalso
        have hi' : i < listed.size := by omega
        have h0 : listed.getD i true = false := by
          simp [hi'] at hb ⊢
          exact hb
        obtain ⟨o, ho, _, _, _, hlow⟩ := hop i hi
        have hm : i ∈ Region.ready .any ops listed := by
          rw [mem_ready]
          refine ⟨h0, o, ho, fun e he hbd => ?_⟩
          have := hlow e he hbd
          exact ih e.on this (by omega)
        rw [hr] at hm
        cases hm
  have key : ∀ (fuel : Nat) (listed : Array Bool) (w : World), listed.size = ops.size → listed.toList.count false = fuel → C (fun j => listed.getD j false) w → (∀ j o', ops[j]? = some o' → listed.getD j false = true → ∀ e ∈ o'.after, Region.binds .any e = true → listed.getD e.on false = true) →
      wpAny P .any ops Q fuel listed (part ops a0 val (fun j => listed.getD j false) ops.size) w := by
    intro fuel
    induction fuel with
    | zero =>
      intro listed w hl hc hC hdc
      have hall : ∀ i, i < ops.size → listed.getD i false = true := fun i hi => by
        have hm : ¬ false ∈ listed.toList := fun h => by
          have := List.count_pos_iff.2 h
          omega
        have hi' : i < listed.size := by omega
        by_cases hbi : listed[i] = true
        · simp [hi', hbi]
        · exfalso
          have e : listed[i] = false := by simpa using hbi
          exact hm (by rw [← e]; simp)
      refine ⟨?_, by rw [part_all hall]; exact hend _ _ hall hC⟩
      refine List.eq_nil_iff_forall_not_mem.2 fun i hi => ?_
      rw [mem_ready] at hi
      obtain ⟨h0, o, ho, _⟩ := hi
      have h1 := hall i (Array.getElem?_eq_some_iff.1 ho).1
      have hi' : i < listed.size := by have := (Array.getElem?_eq_some_iff.1 ho).1; omega
      simp [hi'] at h0 h1
      rw [h0] at h1
      cases h1
    | succ fuel ih =>
      intro listed w hl hc hC hdc
      refine ⟨fun hr => by rw [part_all (fin listed hl hr)]; exact hend _ _ (fin listed hl hr) hC, fun i hi => ?_⟩
      rw [mem_ready] at hi
      obtain ⟨h0, o, ho, haft⟩ := hi
      have hin := (Array.getElem?_eq_some_iff.1 ho).1
      have hi' : i < listed.size := by omega
      obtain ⟨o', ho', hgd, hsel, hread, _⟩ := hop i hin
      rw [ho] at ho'
      cases ho'
      have hLi : listed.getD i false = false := by
        simp [hi'] at h0 ⊢
        exact h0
      have hev : execOp (part ops a0 val (fun j => listed.getD j false) ops.size).eval o = execOp (canon ops a0 val i).eval o := by
        refine execOp_congr o hsel fun x hx => ?_
        cases x with
        | tmp t =>
          refine part_canon (fun i j hij => hone i j t hij) (by omega) fun j hj hd => ?_
          obtain ⟨h1, e, he, hbd, rfl⟩ := hread t hx j (by omega) hd
          exact ⟨h1, haft e he hbd⟩
        | _ => rfl
      have hstp := hstep i o (fun j => listed.getD j false) w (canon ops a0 val i).eval ho hLi hC haft hdc (fun j t hj hd ht => by
        rw [canon_part, part_at hd (fun i hi => hone i j t hi hd) rfl i hj, if_pos (by rw [hN]; exact ht)]) (fun t ht => by
        rw [canon_part, part_other i fun j hj _ => by
          have := List.all_eq_true.1 ht j (List.mem_range.2 hj)
          simpa using this]) (fun v => rfl) (fun f => rfl)
      unfold wpOp
      rw [ho]
      dsimp only
      have hw : Region.wanted o (yielded ops (part ops a0 val (fun j => listed.getD j false) ops.size).tmps) = true := by
        unfold Region.wanted
        rw [hgd]
      rw [if_pos hw]
      refine .inl ?_
      have hstp' : Gives P o (part ops a0 val (fun j => listed.getD j false) ops.size).eval w fun v w' => v = val i ∧ C (updB (fun j => listed.getD j false) i) w' := by
        unfold Gives at hstp ⊢
        rw [hev]
        exact hstp
      refine hstp'.wp fun v w' hv => ?_
      obtain ⟨rfl, hC'⟩ := hv
      have hdst : o.dst = dst ops i := by unfold dst; rw [ho]; rfl
      have hgetD : ∀ j, (listed.setIfInBounds i true).getD j false = if j = i then true else listed.getD j false := fun j => by
        by_cases e : j = i
        · subst e
          rw [if_pos rfl]
          simp [hi']
        · rw [if_neg e]
          exact getD_set_ne false (fun h => e h.symm)
      rw [hdst, part_set hone hLi hin, part_congr (L' := fun j => (listed.setIfInBounds i true).getD j false) (ρ' := val) (fun j => (hgetD j).symm) (fun j _ => by unfold upd; split; rename_i e; rw [e]; rfl)]
      refine ih (listed.setIfInBounds i true) w' (by simpa using hl) ?_ ?_ ?_
      · rw [Array.toList_setIfInBounds]
        have hi2 : i < listed.toList.length := by simpa using hi'
        have e : listed.toList[i] = false := by
          simp [hi'] at h0
          simpa using h0
        have hpos : 0 < listed.toList.count false := List.count_pos_iff.2 (by rw [← e]; exact List.getElem_mem hi2)
        rw [List.count_set hi2, e, if_pos (by decide), if_neg (by decide)]
        omega
      · have e : (fun j => (listed.setIfInBounds i true).getD j false) = updB (fun j => listed.getD j false) i := funext fun j => by rw [hgetD]; rfl
        rw [e]
        exact hC'
      · intro j o' hj hjl e he hbe
        rw [hgetD] at hjl ⊢
        by_cases e1 : e.on = i
        · rw [if_pos e1]
        · rw [if_neg e1]
          by_cases e2 : j = i
          · subst e2
            rw [ho] at hj
            cases hj
            exact haft e he hbe
          · rw [if_neg e2] at hjl
            exact hdc j o' hj hjl e he hbe
  have hnone : ∀ j, (Array.replicate ops.size false).getD j false = false := fun j => by by_cases hk : j < ops.size <;> simp [hk]
  have h0 : part ops a0 val (fun j => (Array.replicate ops.size false).getD j false) ops.size = a0 := by
    have : ∀ k, part ops a0 val (fun j => (Array.replicate ops.size false).getD j false) k = a0 := by
      intro k
      induction k with
      | zero => rfl
      | succ k ih =>
        unfold part
        rw [ih, hnone k, if_neg (by decide)]
    exact this _
  have hk := key ops.size (Array.replicate ops.size false) w0 (by simp) (by simp) (by rw [show (fun j => (Array.replicate ops.size false).getD j false) = fun _ => false from funext hnone]; exact h00) (fun j o' _ h => by rw [hnone j] at h; cases h)
  rw [h0] at hk
  exact hk

end AnyOrd

end Go.Proofs.Ytalfpbalekbinaa

/-
  gather: what lies on the stack from a place on is a block, and is kept under its least edge.
-/
namespace Go.Proofs.Ytalfpbalekbinaa
open Go.RowKit Go.Sort

namespace Bl
/-- The first i are laid. -/
def zf (L : List Nat) (i : Nat) : List Int := (List.range L.length).map fun j => if j < i then ((L.getD j 0 : Nat) : Int) else 0
theorem zf_length (L : List Nat) (i : Nat) : (zf L i).length = L.length := by simp [zf]
theorem zf_at {L : List Nat} {i j : Nat} (h : j < L.length) : (zf L i)[j]? = some (if j < i then ((L.getD j 0 : Nat) : Int) else 0) := by
  unfold zf
  rw [List.getElem?_map, List.getElem?_range h]
  rfl
theorem zf_zero (L : List Nat) : zf L 0 = List.replicate L.length 0 := by
  refine List.ext_getElem? fun i => ?_
  by_cases h : i < L.length
  · rw [zf_at h, List.getElem?_replicate, if_pos h, if_neg (by omega)]
  · rw [List.getElem?_eq_none (by rw [zf_length]; omega), List.getElem?_eq_none (by simp; omega)]
theorem zf_all (L : List Nat) : zf L L.length = L.map Nat.cast := by
  refine List.ext_getElem? fun i => ?_
  by_cases h : i < L.length
  · rw [zf_at h, if_pos h, List.getElem?_map, List.getElem?_eq_getElem h, List.getD_eq_getElem?_getD, List.getElem?_eq_getElem h]
    rfl
  · rw [List.getElem?_eq_none (by rw [zf_length]; omega), List.getElem?_eq_none (by simp; omega)]
theorem zf_set {L : List Nat} {i x : Nat} (h : L[i]? = some x) : (zf L i).set i (x : Int) = zf L (i + 1) := by
  have hi := (List.getElem?_eq_some_iff.1 h).1
  refine List.ext_getElem? fun j => ?_
  by_cases hj : j < L.length
  · by_cases e : i = j
    · subst e
      rw [List.getElem?_set_self (by rw [zf_length]; exact hi), zf_at hj, if_pos (by omega), List.getD_eq_getElem?_getD, h]
      rfl
    · rw [List.getElem?_set_ne e, zf_at hj, zf_at hj]
      by_cases h1 : j < i
      · rw [if_pos h1, if_pos (by omega)]
      · rw [if_neg h1, if_neg (by omega)]
  · rw [List.getElem?_eq_none (by rw [List.length_set, zf_length]; omega), List.getElem?_eq_none (by rw [zf_length]; omega)]
end Bl

theorem int_key {k : Int} (h0 : 0 ≤ k) (h1 : k ≤ 4611686018427387904) : keyOf Try.prog 3 (.int .i64 k) = some (.int .i64 k) :=
  Maps.keyOf_int_mk Try.underlying3 (WalkArith.wf_i64 ⟨by omega, by omega⟩)

theorem keyedInt : Maps.Keyed Try.prog 3 := Maps.int_keyed Try.underlying3

/-- A block more is found: its row is block g. -/
theorem FinIn.found {x : Fx} {w0 w w' w'' : World} {sv yv : Value} {D : DataW Value} {G : Nat → Prop} {S : List (Nat × Int)} {Y : List Nat} {F : List (List Nat)} (h : FinIn x w0 w sv yv D G S Y F) {L : List Nat} {g : Nat} (hb : Below w.heap.size w w') (hg : w.heap.size ≤ g) (hi : IntsBlk w' g (L.map Nat.cast))
    (hmap : w''.ownsMap Try.prog 3 rawE x.mb (F.length + 1) (D.put (.int .i64 (Bl.mn L : Int)) (.held (.slice (some ⟨g, 0, none⟩) L.length L.length)))) (hgr : w'.grownBy w'' (some x.mb)) (hnew : ∀ L' ∈ F, Bl.mn L' ≠ Bl.mn L) : FinIn x w0 w'' sv yv (D.put (.int .i64 (Bl.mn L : Int)) (.held (.slice (some ⟨g, 0, none⟩) L.length L.length))) (fun k => G k ∨ k = g) S Y (F ++ [L]) := by
  have h1 := h.later hb
  have hok := h.ok
  have hblk : ∀ k, k < w'.heap.size → k ≠ x.mb → w''.heap[k]? = w'.heap[k]? := fun k hk hne => hgr.block k hk (fun e => hne (Option.some.inj e))
  have hgl : g < w'.heap.size := hi.lt
  have hgm : g ≠ x.mb := by have := h.map.lt; omega
  have hkl : WideAt.IsKeyLit (.int .i64 (Bl.mn L : Int)) := trivial
  refine ⟨hok, h1.below.trans ⟨hgr.os, hgr.tape, hgr.output, hgr.size, fun k hk => hblk k (by have := h1.below.size; omega) (by have := hok.l1; omega)⟩, Nat.le_trans h1.size hgr.size, (hblk _ h1.plt (fun e => hok.l5 e.symm)).trans h1.blk,
    h1.stk.same fun k hk hl => hblk k hl (fun e => h1.sfar hok.l3 (by rw [← e]; exact hk)), h1.way.same fun k hk hl => hblk k hl (fun e => h1.yfar hok.l3 (by rw [← e]; exact hk)), h.ne, by rw [List.length_append]; exact hmap, fun kl => ?_, fun L' hL' => ?_, fun k hk => ?_⟩
  · by_cases e : kl = .int .i64 (Bl.mn L : Int)
    · subst e
      rw [Maps.has_put_same h.map.isMap hkl]
      exact ⟨fun _ => ⟨L, by simp, rfl⟩, fun _ => rfl⟩
    · rw [Maps.has_put_other e, h.keys kl]
      constructor
      · rintro ⟨L', hL', e'⟩
        exact ⟨L', List.mem_append_left _ hL', e'⟩
      · rintro ⟨L', hL', e'⟩
        rcases List.mem_append.1 hL' with hL' | hL'
        · exact ⟨L', hL', e'⟩
        · rw [List.mem_singleton.1 hL'] at e'
          exact absurd e' e
  · rcases List.mem_append.1 hL' with hL' | hL'
    · obtain ⟨g', e', hB, hG, hi'⟩ := h1.rows L' hL'
      refine ⟨g', ?_, hB, .inl hG, (hblk g' hi'.lt (fun e => by have := hok.l3; omega)).trans hi'⟩
      rw [Maps.atKey_put_other (fun e => hnew L' hL' (by injection e; omega))]
      exact e'
    · rw [List.mem_singleton.1 hL']
      refine ⟨g, Maps.atKey_put_same h.map.isMap hkl _ _, Nat.le_trans h.size hg, .inr rfl, (hblk g hgl hgm).trans hi⟩
  · rcases hk with hk | rfl
    · obtain ⟨a, b, c⟩ := h1.far k hk
      exact ⟨Nat.lt_of_lt_of_le a hgr.size, b, c⟩
    · refine ⟨Nat.lt_of_lt_of_le hgl hgr.size, fun e => ?_, fun e => ?_⟩
      · have := (h.stk.lt e).2
        omega
      · have := (World.ownsRow.lt h.way _ e).2
        omega

theorem look_zero (w : World) : (zeroValue 26).run Try.prog w = .ok (.slice none 0 0) w := by kernel_rfl

/-- What the operations at gather's end give. -/
def gaVal (p mb g k : Nat) (m : Int) : Nat → Value
  | 0 => .pointer (some ⟨p, 0, none⟩)
  | 1 => .pointer (some ⟨p, 0, none⟩)
  | 2 => .pointer (some ⟨p, 7, none⟩)
  | 3 => .map (some mb)
  | 4 => .slice (some ⟨g, 0, none⟩) k k
  | 5 => .int .i64 m
  | 6 => .slice (some ⟨g, 0, none⟩) k k
  | _ => undef

set_option maxRecDepth 100000 in
set_option maxHeartbeats 16000000 in
theorem gather_any9 (x : Fx) (w0 w : World) (sv yv : Value) (D : DataW Value) (G : Nat → Prop) (S : List (Nat × Int)) (Y : List Nat) (F : List (List Nat)) (a gs cs k : Nat) (L : List Nat) (h : FinIn x w0 w sv yv D G S Y F) (hsv : sv = .slice (some ⟨gs, 0, none⟩) S.length cs) (ha : a < S.length) (hk : a + k = S.length) (hL : L = (S.drop a).map Prod.fst) (hS : S.length ≤ 4194304) (hF : F.length ≤ 4194304) (hpos : ∀ y ∈ L, y < 4194304) (hnew : ∀ L' ∈ F, Bl.mn L' ≠ Bl.mn L) (c : Nat) :
    Calls Try.prog 102 #[.pointer (some ⟨x.p, 0, none⟩), .slice (some ⟨gs, a * 2, none⟩) k c] w fun e w' => e = .returned (.tuple #[]) ∧ ∃ D' G', FinIn x w0 w' sv yv D' G' S Y (F ++ [L]) := by
  obtain ⟨i0, hi, hz0, hz1, hz2⟩ := info_parts Try.infoNum
  have H := Nu.hid h
  have hLl : L.length = k := by rw [hL]; simp; omega
  have hcell : ∀ W, Below w.heap.size w W → ∀ i t : Nat, L[i]? = some t → ∃ l : Int, W.cell? ⟨gs, a * 2 + i * 2, none⟩ = some (.int .i64 (t : Int)) ∧ W.cell? ⟨gs, a * 2 + i * 2 + 1, none⟩ = some (.int .i64 l) := fun W hW i t hi => by
    have e1 : (S.drop a)[i]?.map Prod.fst = some t := by rw [← List.getElem?_map, ← hL]; exact hi
    obtain ⟨⟨t', l⟩, e2, e3⟩ := Option.map_eq_some_iff.1 e1
    dsimp only at e3
    subst e3
    rw [List.getElem?_drop] at e2
    have hst := (h.later hW).stk
    obtain ⟨g', c', cur, e4, -, hh, -, -, ht, -, -⟩ := hst.row e2
    rw [hsv] at e4
    cases e4
    obtain ⟨q0, q1⟩ := row_cells hh rfl ht e2
    refine ⟨l, ?_, ?_⟩
    · rw [show a * 2 + i * 2 = (a + i) * 2 by omega]; exact q0
    · rw [show a * 2 + i * 2 + 1 = (a + i) * 2 + 1 by omega]; exact q1
  have HC := Nu.hid hcell
  have hk0 : 0 < k := by omega
  have hk4 : k ≤ 4194304 := by omega
  have HL := Nu.hid hLl
  have HP := Nu.hid hpos
  clear h hcell hLl hsv ha hk hL hS hpos
  go_enter Try.func102, Try.ntmps102
  go_wp2_with (at_make; refine wpList_make_full _ rfl _ _ 26 rfl w.heap.size 3 i0 (.int .i64 0) 1 Try.underlying26 hi hz0 hz1 _ _ _ _ k rfl rfl rfl rfl (by rw [hz2]; omega) (by unfold maxLen; omega) (Nat.le_refl _) ?_; refine Hid.out ?_)
  refine Nu.hid ?_
  intro w1 hrow hg1
  rw [made_zeros] at hrow
  have hik := ints_of_row hrow
  rw [← HL.out, ← Bl.zf_zero] at hik
  have hb1 : Below w.heap.size w w1 := (Below.refl _ _).grown hg1 (Nat.le_refl _) (fun j hj => by cases hj)
  have HB1 := Nu.hid hb1
  have HI1 := Nu.hid hik
  clear hrow hg1 hik hb1
  go_wp2
  go_loopw [12] (fun cv wr => ∃ i : Nat, i ≤ k ∧ cv = .int .i64 (i : Int) ∧ IntsBlk wr w.heap.size (Bl.zf L i) ∧ Below w.heap.size w wr) (fun cv _ => k - (intOf cv).toNat)
  case atStart => exact ⟨0, Nat.zero_le _, rfl, HI1.out, HB1.out⟩
  case round =>
    obtain ⟨i, hil, rfl, hI, hb⟩ := hrel
    have HI := Nu.hid hI
    have HB := Nu.hid hb
    by_cases hik : i < k
    · have hlti : (i : Int) < (k : Int) := by omega
      have hi0 : (0 : Int) ≤ (i : Int) := by omega
      obtain ⟨t, ht⟩ : ∃ t, L[i]? = some t := ⟨_, List.getElem?_eq_getElem (by rw [HL.out]; exact hik)⟩
      obtain ⟨l, c0, c1⟩ := HC.out wr hb i t ht
      have hgl := hI.lt
      have cf := hI.free i
      have ck := hI.cell (Bl.zf_at (i := i) (j := i) (by rw [HL.out]; exact hik))
      have HT := Nu.hid ht
      have HS : Hid (IntsBlk (wr.setCell ⟨w.heap.size, i, none⟩ (.int .i64 (t : Int))) w.heap.size (Bl.zf L (i + 1))) := by
        show IntsBlk _ _ _
        rw [← Bl.zf_set ht]
        exact hI.set i _
      clear hI hb ht
      go_wp2
      go_roundw
      case rel => exact ⟨i + 1, by omega, by go_num, by first | exact HS.out.alloc _ | (rw [← Bl.zf_set HT.out]; exact (HI.out.alloc _).set _ _), by first | exact (HB.out.setCell (p := ⟨w.heap.size, i, none⟩) (Nat.le_refl _) _).alloc (by have := HB.out.size; simp; omega) _ | exact (HB.out.alloc HB.out.size _).setCell (p := ⟨w.heap.size, i, none⟩) (Nat.le_refl _) _⟩
      case measure => simp [intOf]; omega
    · have hlti : ¬ (i : Int) < (k : Int) := by omega
      obtain rfl : i = k := by omega
      have hIL : IntsBlk wr w.heap.size (L.map Nat.cast) := by rw [← Bl.zf_all, HL.out]; exact hI
      have h1 := H.out.later hb
      have c7 : wr.cell? ⟨x.p, 7, none⟩ = some (.map (some x.mb)) := (h1.cells (i := 7) rfl).1
      have hmm : Bl.mn L < 4194304 := HP.out _ (Bl.mn_mem (fun e => by have := HL.out; rw [e] at this; simp at this; omega))
      have hmap : (wr.drew).ownsMap Try.prog 3 rawE x.mb F.length D := h1.map.drew
      obtain ⟨w2, hrun, hmap2, hgr⟩ := hmap.update keyedInt Try.underlying56 (by unfold maxLen; omega) (int_key (k := (Bl.mn L : Int)) (by omega) (by omega)) (val := .slice (some ⟨w.heap.size, 0, none⟩) i i) (d := .held (.slice (some ⟨w.heap.size, 0, none⟩) i i)) (ps := []) rfl
      have HEND : Hid (∃ D' G', FinIn x w0 w2 sv yv D' G' S Y (F ++ [L])) := by
        refine ⟨_, _, H.out.found (w' := wr.drew) (L := L) (g := w.heap.size) hb.drew (Nat.le_refl _) hIL ?_ hgr hnew⟩
        rw [HL.out]
        exact hmap2
      have HMIN : Hid (Calls Try.prog 115 #[.slice (some ⟨w.heap.size, 0, none⟩) i i] wr.drew fun e w' => e = .returned (.int .i64 (Bl.mn L : Int)) ∧ w' = wr.drew) := by
        refine (min_any (some ⟨w.heap.size, 0, none⟩) i i (L.map Nat.cast) wr.drew (by rw [List.length_map]; exact HL.out) hk0 (by omega) (IntsBlk.at (w := wr.drew) hIL)).mono ?_
        rintro e w' ⟨m, rfl, hm, rfl⟩
        rw [← HL.out] at hm
        exact ⟨by rw [hm.mn], rfl⟩
      clear hI hb h1 hmap hmap2 hgr hIL
      go_wp2_with fail
      refine wp_region_any (by kernel_rfl) ?_
      refine AnyOrd.anyP (gaVal x.p x.mb w.heap.size i (Bl.mn L : Int)) (fun L V => if L 7 = true then V = w2 else V = wr.drew) 30 rfl (by kernel_rfl) rfl ?_ ?_
      · intro j o Ls V ev ho hLi hC haft hdc he1 he2 hec hef
        have hc : j = 0 ∨ j = 1 ∨ j = 2 ∨ j = 3 ∨ j = 4 ∨ j = 5 ∨ j = 6 ∨ j = 7 := by
          have : j < 8 := (Array.getElem?_eq_some_iff.1 ho).1
          omega
        have hdn : ∀ k, k < 7 → Ls 7 = true → Ls k = true := fun k hk h7 => by
          have : k = 0 ∨ k = 1 ∨ k = 2 ∨ k = 3 ∨ k = 4 ∨ k = 5 ∨ k = 6 := by omega
          rcases this with rfl | rfl | rfl | rfl | rfl | rfl | rfl
          all_goals exact hdc 7 _ rfl h7 ⟨_, .phase⟩ (by simp) rfl
        have hV : j ≠ 7 → V = wr.drew := fun hj => by
          cases h7 : Ls 7 with
          | false =>
            rw [h7] at hC
            exact hC
          | true =>
            have := hdn j (by omega) h7
            rw [hLi] at this
            cases this
        have hV7 : j = 7 → V = wr.drew := fun hj => by
          subst hj
          rw [hLi] at hC
          exact hC
        obtain rfl : V = wr.drew := by
          by_cases e : j = 7
          · exact hV7 e
          · exact hV e
        have hoth : j ≠ 7 → (if AnyOrd.updB Ls j 7 = true then wr.drew = w2 else wr.drew = wr.drew) := fun hj => by
          have e1 : AnyOrd.updB Ls j 7 = Ls 7 := if_neg (fun e => hj e.symm)
          rw [e1]
          exact hC
        have c7' : wr.drew.cell? ⟨x.p, 7, none⟩ = some (.map (some x.mb)) := c7
        clear hV hV7 hC
        rcases hc with rfl | rfl | rfl | rfl | rfl | rfl | rfl | rfl <;> obtain rfl := Option.some.inj ho
        · have e1 := he2 0 (by kernel_rfl)
          exact AnyOrd.gives_value (w' := wr.drew) (by simp [execOp, go_sem, e1]; rfl) ⟨rfl, hoth (by decide)⟩
        · have e1 : ev (.tmp 23) = .pointer (some ⟨x.p, 0, none⟩) := he1 0 23 (by omega) rfl (by decide)
          exact AnyOrd.gives_value (w' := wr.drew) (by simp [execOp, go_sem, e1]; rfl) ⟨rfl, hoth (by decide)⟩
        · have e1 : ev (.tmp 24) = .pointer (some ⟨x.p, 0, none⟩) := he1 1 24 (by omega) rfl (by decide)
          exact AnyOrd.gives_value (w' := wr.drew) (by simp [execOp, go_sem, e1]; rfl) ⟨rfl, hoth (by decide)⟩
        · have e1 : ev (.tmp 25) = .pointer (some ⟨x.p, 7, none⟩) := he1 2 25 (by omega) rfl (by decide)
          exact AnyOrd.gives_value (w' := wr.drew) (by simp [execOp, go_sem, e1, c7']; rfl) ⟨rfl, hoth (by decide)⟩
        · have e1 := he2 4 (by kernel_rfl)
          exact AnyOrd.gives_value (w' := wr.drew) (by simp [execOp, go_sem, e1]; rfl) ⟨rfl, hoth (by decide)⟩
        · have e1 : ev (.tmp 27) = .slice (some ⟨w.heap.size, 0, none⟩) i i := he1 4 27 (by omega) rfl (by decide)
          have hen : ∀ args w, (callFunc 115 args).run Try.prog w = .ok (.enter 115 args) w := enters_of Try.func115 (by kernel_rfl) rfl
          have hrun5 : ∀ o : Oper, o.op = .call { callee := .value (.func 115), args := #[.tmp 27], argTypes := #[26] } → (execOp ev o).run Try.prog wr.drew = .ok (.enter 115 #[.slice (some ⟨w.heap.size, 0, none⟩) i i]) wr.drew := fun o ho => by
            simp [execOp, ho, go_sem, e1, hef, hen]
          unfold AnyOrd.Gives
          rw [hrun5 _ rfl]
          refine HMIN.out.mono fun e V' hq => ⟨_, hq.1, rfl, ?_⟩
          rw [hq.2]
          exact hoth (by decide)
        · have e1 := he2 4 (by kernel_rfl)
          exact AnyOrd.gives_value (w' := wr.drew) (by simp [execOp, go_sem, e1]; rfl) ⟨rfl, hoth (by decide)⟩
        · have e1 : ev (.tmp 26) = .map (some x.mb) := he1 3 26 (by omega) rfl (by decide)
          have e2 : ev (.tmp 28) = .int .i64 (Bl.mn L : Int) := he1 5 28 (by omega) rfl (by decide)
          have e3 : ev (.tmp 29) = .slice (some ⟨w.heap.size, 0, none⟩) i i := he1 6 29 (by omega) rfl (by decide)
          refine AnyOrd.gives_skip (w' := w2) (by simp [execOp, e1, e2, e3, hrun, Result.andThen]) ⟨rfl, ?_⟩
          rw [if_pos (show AnyOrd.updB Ls 7 7 = true from rfl)]
      · intro Ls V hall hC
        rw [hall 7 (by decide), if_pos rfl] at hC
        subst hC
        go_end0
        exact ⟨rfl, HEND.out⟩
end Go.Proofs.Ytalfpbalekbinaa
