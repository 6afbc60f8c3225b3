import Derived.Test.YtodlejemkihjnaaDoorMg02
import Derived.Test.YtodlejemkihjnaaDoorMg01
import Derived.Laws.AppendOwnNone
import Derived.Deep.AppendLies
import Derived.Test.YtodlejemkihjnaaDoorMg00
import Derived.Laws.OwnMore
/-
  A region that draws its order, each of whose operations gives a value of its own, known ahead; in no round.
-/
namespace Go.Proofs.YtodlejemkihjnaaDoor
open Go.RowKit

namespace AnyOrd

def updB (L : Nat → Bool) (i : Nat) : Nat → Bool := fun j => if j = i then true else L j

theorem part_all {ops : Array Oper} {a0 : Act} {ρ : Nat → Value} {L : Nat → Bool} : ∀ {k : Nat}, (∀ i, i < k → L i = true) → part ops a0 ρ L k = canon ops a0 ρ k
  | 0, _ => rfl
  | k + 1, h => by
    unfold part canon
    rw [if_pos (h k (by omega)), part_all fun i hi => h i (by omega)]

theorem anyP {P : Program} {ops : Array Oper} {Q : Exit → Act → World → Prop} {a0 : Act} {w0 : World} (val : Nat → Value) (C : (Nat → Bool) → World → Prop) (N : Nat) (hN : a0.tmps.size = N) (hsh : shape ops ops.size (fun _ => []) = true)
    (h00 : C (fun _ => false) w0)
    (hstep : ∀ i o (L : Nat → Bool) w (ev : Operand → Value), ops[i]? = some o → L i = false → C L w → (∀ e ∈ o.after, Region.binds .any e = true → L e.on = true) → (∀ j o', ops[j]? = some o' → L j = true → ∀ e ∈ o'.after, Region.binds .any e = true → L e.on = true) →
      (∀ j t, j < i → dst ops j = some t → t < N → ev (.tmp t) = val j) → (∀ t, ((List.range i).all fun j => dst ops j != some t) = true → ev (.tmp t) = a0.eval (.tmp t)) → (∀ v, ev (.const v) = v) → (∀ f, ev (.func f) = .func (.func f) #[] #[]) →
      Gives P o ev w fun v w' => v = val i ∧ C (updB L i) w')
    (hend : ∀ L w, (∀ i, i < ops.size → L i = true) → C L w → Q .normal (canon ops a0 val ops.size) w) :
    wpAny P .any ops Q ops.size (Array.replicate ops.size false) a0 w0 := by
  have hs := fun i (hi : i < ops.size) => List.all_eq_true.1 hsh i (List.mem_range.2 hi)
  have hlt : ∀ {j t}, dst ops j = some t → j < ops.size := fun {j t} h => by
    rcases Nat.lt_or_ge j ops.size with h1 | h1
    · exact h1
    · unfold dst at h; rw [Array.getElem?_eq_none h1] at h; cases h
  have hone : ∀ i j t, i ≠ j → dst ops j = some t → dst ops i ≠ some t := fun i j t hij hj hi => by
    have h1 := hs j (hlt hj)
    dsimp only at h1
    cases ho : ops[j]? with
    | none => rw [ho] at h1; cases h1
    | some o =>
      have hd : o.dst = some t := by unfold dst at hj; rw [ho] at hj; exact hj
      rw [ho] at h1
      simp only [Bool.and_eq_true] at h1
      have h2 := h1.1
      rw [hd] at h2
      have h3 := List.all_eq_true.1 h2 i (List.mem_range.2 (hlt hi))
      simp only [Bool.or_eq_true, beq_iff_eq, bne_iff_ne] at h3
      rcases h3 with h3 | h3
      · exact hij h3
      · exact h3 hi
  have hop : ∀ i, i < ops.size → ∃ o, ops[i]? = some o ∧ o.guard = none ∧ (∀ cs b, o.op ≠ .select cs b) ∧
      (∀ t, Operand.tmp t ∈ o.op.operands → ∀ j, j < ops.size → dst ops j = some t → j < i ∧ ∃ e ∈ o.after, Region.binds .any e = true ∧ e.on = j) ∧ (∀ e ∈ o.after, Region.binds .any e = true → e.on < i) := fun i hi => by
    have h1 := hs i hi
    dsimp only at h1
    cases ho : ops[i]? with
    | none => rw [ho] at h1; cases h1
    | some o =>
      rw [ho] at h1
      simp only [Bool.and_eq_true, if_pos hi] at h1
      obtain ⟨_, ⟨⟨⟨g1, g2⟩, g4⟩, _⟩, g6⟩ := h1
      refine ⟨o, rfl, by simpa using g1, (fun cs b hsel => by rw [hsel] at g2; cases g2), fun t ht j hj hd => ?_, fun e he hb => ?_⟩
      · have h2 := List.all_eq_true.1 g4 (.tmp t) (by simpa using ht)
        dsimp only at h2
        have h3 := List.all_eq_true.1 h2 j (List.mem_range.2 hj)
        simp only [Bool.or_eq_true, bne_iff_ne, Bool.and_eq_true, decide_eq_true_eq, List.any_eq_true, beq_iff_eq] at h3
        rcases h3 with h3 | ⟨h3, e, he, h4⟩
        · exact absurd hd h3
        · exact ⟨h3, e, by simpa using he, h4⟩
      · have h2 := Array.all_eq_true_iff_forall_mem.1 g6 e he
        rw [hb] at h2
        simpa using h2
  have fin : ∀ (listed : Array Bool), listed.size = ops.size → Region.ready .any ops listed = [] → ∀ i, i < ops.size → listed.getD i false = true := by
    intro listed hl hr i
    induction i using Nat.strongRecOn with
    | _ i ih =>
      intro hi
      by_cases hb : listed.getD i false = true
      · exact hb
      · exfalso
        have hi' : i < listed.size := by omega
        have h0 : listed.getD i true = false := by
          simp [hi'] at hb ⊢
          exact hb
        obtain ⟨o, ho, _, _, _, hlow⟩ := hop i hi
        have hm : i ∈ Region.ready .any ops listed := by
          rw [mem_ready]
          refine ⟨h0, o, ho, fun e he hbd => ?_⟩
          have := hlow e he hbd
          exact ih e.on this (by omega)
        rw [hr] at hm
        cases hm
  have key : ∀ (fuel : Nat) (listed : Array Bool) (w : World), listed.size = ops.size → listed.toList.count false = fuel → C (fun j => listed.getD j false) w → (∀ j o', ops[j]? = some o' → listed.getD j false = true → ∀ e ∈ o'.after, Region.binds .any e = true → listed.getD e.on false = true) →
      wpAny P .any ops Q fuel listed (part ops a0 val (fun j => listed.getD j false) ops.size) w := by
    intro fuel
    induction fuel with
    | zero =>
      intro listed w hl hc hC hdc
      have hall : ∀ i, i < ops.size → listed.getD i false = true := fun i hi => by
        have hm : ¬ false ∈ listed.toList := fun h => by
          have := List.count_pos_iff.2 h
          omega
        have hi' : i < listed.size := by omega
        by_cases hbi : listed[i] = true
        · simp [hi', hbi]
        · exfalso
          have e : listed[i] = false := by simpa using hbi
          exact hm (by rw [← e]; simp)
      refine ⟨?_, by rw [part_all hall]; exact hend _ _ hall hC⟩
      refine List.eq_nil_iff_forall_not_mem.2 fun i hi => ?_
      rw [mem_ready] at hi
      obtain ⟨h0, o, ho, _⟩ := hi
      have h1 := hall i (Array.getElem?_eq_some_iff.1 ho).1
      have hi' : i < listed.size := by have := (Array.getElem?_eq_some_iff.1 ho).1; omega
      simp [hi'] at h0 h1
      rw [h0] at h1
      cases h1
    | succ fuel ih =>
      intro listed w hl hc hC hdc
      refine ⟨fun hr => by rw [part_all (fin listed hl hr)]; exact hend _ _ (fin listed hl hr) hC, fun i hi => ?_⟩
      rw [mem_ready] at hi
      obtain ⟨h0, o, ho, haft⟩ := hi
      have hin := (Array.getElem?_eq_some_iff.1 ho).1
      have hi' : i < listed.size := by omega
      obtain ⟨o', ho', hgd, hsel, hread, _⟩ := hop i hin
      rw [ho] at ho'
      cases ho'
      have hLi : listed.getD i false = false := by
        simp [hi'] at h0 ⊢
        exact h0
      have hev : execOp (part ops a0 val (fun j => listed.getD j false) ops.size).eval o = execOp (canon ops a0 val i).eval o := by
        refine execOp_congr o hsel fun x hx => ?_
        cases x with
        | tmp t =>
          refine part_canon (fun i j hij => hone i j t hij) (by omega) fun j hj hd => ?_
          obtain ⟨h1, e, he, hbd, rfl⟩ := hread t hx j (by omega) hd
          exact ⟨h1, haft e he hbd⟩
        | _ => rfl
      have hstp := hstep i o (fun j => listed.getD j false) w (canon ops a0 val i).eval ho hLi hC haft hdc (fun j t hj hd ht => by
        rw [canon_part, part_at hd (fun i hi => hone i j t hi hd) rfl i hj, if_pos (by rw [hN]; exact ht)]) (fun t ht => by
        rw [canon_part, part_other i fun j hj _ => by
          have := List.all_eq_true.1 ht j (List.mem_range.2 hj)
          simpa using this]) (fun v => rfl) (fun f => rfl)
      unfold wpOp
      rw [ho]
      dsimp only
      have hw : Region.wanted o (yielded ops (part ops a0 val (fun j => listed.getD j false) ops.size).tmps) = true := by
        unfold Region.wanted
        rw [hgd]
      rw [if_pos hw]
      refine .inl ?_
      have hstp' : Gives P o (part ops a0 val (fun j => listed.getD j false) ops.size).eval w fun v w' => v = val i ∧ C (updB (fun j => listed.getD j false) i) w' := by
        unfold Gives at hstp ⊢
        rw [hev]
        exact hstp
      refine hstp'.wp fun v w' hv => ?_
      obtain ⟨rfl, hC'⟩ := hv
      have hdst : o.dst = dst ops i := by unfold dst; rw [ho]; rfl
      have hgetD : ∀ j, (listed.setIfInBounds i true).getD j false = if j = i then true else listed.getD j false := fun j => by
        by_cases e : j = i
        · subst e
          rw [if_pos rfl]
          simp [hi']
        · rw [if_neg e]
          exact getD_set_ne false (fun h => e h.symm)
      rw [hdst, part_set hone hLi hin, part_congr (L' := fun j => (listed.setIfInBounds i true).getD j false) (ρ' := val) (fun j => (hgetD j).symm) (fun j _ => by unfold upd; split; rename_i e; rw [e]; rfl)]
      refine ih (listed.setIfInBounds i true) w' (by simpa using hl) ?_ ?_ ?_
      · rw [Array.toList_setIfInBounds]
        have hi2 : i < listed.toList.length := by simpa using hi'
        have e : listed.toList[i] = false := by
          simp [hi'] at h0
          simpa using h0
        have hpos : 0 < listed.toList.count false := List.count_pos_iff.2 (by rw [← e]; exact List.getElem_mem hi2)
        rw [List.count_set hi2, e, if_pos (by decide), if_neg (by decide)]
        omega
      · have e : (fun j => (listed.setIfInBounds i true).getD j false) = updB (fun j => listed.getD j false) i := funext fun j => by rw [hgetD]; rfl
        rw [e]
        exact hC'
      · intro j o' hj hjl e he hbe
        rw [hgetD] at hjl ⊢
        by_cases e1 : e.on = i
        · rw [if_pos e1]
        · rw [if_neg e1]
          by_cases e2 : j = i
          · subst e2
            rw [ho] at hj
            cases hj
            exact haft e he hbe
          · rw [if_neg e2] at hjl
            exact hdc j o' hj hjl e he hbe
  have hnone : ∀ j, (Array.replicate ops.size false).getD j false = false := fun j => by by_cases hk : j < ops.size <;> simp [hk]
  have h0 : part ops a0 val (fun j => (Array.replicate ops.size false).getD j false) ops.size = a0 := by
    have : ∀ k, part ops a0 val (fun j => (Array.replicate ops.size false).getD j false) k = a0 := by
      intro k
      induction k with
      | zero => rfl
      | succ k ih =>
        unfold part
        rw [ih, hnone k, if_neg (by decide)]
    exact this _
  have hk := key ops.size (Array.replicate ops.size false) w0 (by simp) (by simp) (by rw [show (fun j => (Array.replicate ops.size false).getD j false) = fun _ => false from funext hnone]; exact h00) (fun j o' _ h => by rw [hnone j] at h; cases h)
  rw [h0] at hk
  exact hk

end AnyOrd

end Go.Proofs.YtodlejemkihjnaaDoor

/-
  A region that draws its order, in no round: what is so when some of its operations have come up, of the values that they gave.
-/
namespace Go.Proofs.YtodlejemkihjnaaDoor
open Go.RowKit

namespace AnyOrd

theorem anyV {P : Program} {ops : Array Oper} {Q : Exit → Act → World → Prop} {a0 : Act} {w0 : World} (C : (Nat → Bool) → (Nat → Value) → World → Prop) (N : Nat) (hN : a0.tmps.size = N) (hsh : shape ops ops.size (fun _ => []) = true)
    (h00 : ∀ ρ, C (fun _ => false) ρ w0)
    (hstep : ∀ i o (L : Nat → Bool) (ρ : Nat → Value) w (ev : Operand → Value), ops[i]? = some o → L i = false → C L ρ w → (∀ e ∈ o.after, Region.binds .any e = true → L e.on = true) → (∀ j o', ops[j]? = some o' → L j = true → ∀ e ∈ o'.after, Region.binds .any e = true → L e.on = true) →
      (∀ j t, j < i → dst ops j = some t → t < N → ev (.tmp t) = ρ j) → (∀ t, ((List.range i).all fun j => dst ops j != some t) = true → ev (.tmp t) = a0.eval (.tmp t)) → (∀ v, ev (.const v) = v) → (∀ f, ev (.func f) = .func (.func f) #[] #[]) →
      Gives P o ev w fun v w' => C (updB L i) (upd ρ i v) w')
    (hend : ∀ L ρ w, (∀ i, i < ops.size → L i = true) → C L ρ w → Q .normal (canon ops a0 ρ ops.size) w) :
    wpAny P .any ops Q ops.size (Array.replicate ops.size false) a0 w0 := by
  have hs := fun i (hi : i < ops.size) => List.all_eq_true.1 hsh i (List.mem_range.2 hi)
  have hlt : ∀ {j t}, dst ops j = some t → j < ops.size := fun {j t} h => by
    rcases Nat.lt_or_ge j ops.size with h1 | h1
    · exact h1
    · unfold dst at h; rw [Array.getElem?_eq_none h1] at h; cases h
  have hone : ∀ i j t, i ≠ j → dst ops j = some t → dst ops i ≠ some t := fun i j t hij hj hi => by
    have h1 := hs j (hlt hj)
    dsimp only at h1
    cases ho : ops[j]? with
    | none => rw [ho] at h1; cases h1
    | some o =>
      have hd : o.dst = some t := by unfold dst at hj; rw [ho] at hj; exact hj
      rw [ho] at h1
      simp only [Bool.and_eq_true] at h1
      have h2 := h1.1
      rw [hd] at h2
      have h3 := List.all_eq_true.1 h2 i (List.mem_range.2 (hlt hi))
      simp only [Bool.or_eq_true, beq_iff_eq, bne_iff_ne] at h3
      rcases h3 with h3 | h3
      · exact hij h3
      · exact h3 hi
  have hop : ∀ i, i < ops.size → ∃ o, ops[i]? = some o ∧ o.guard = none ∧ (∀ cs b, o.op ≠ .select cs b) ∧
      (∀ t, Operand.tmp t ∈ o.op.operands → ∀ j, j < ops.size → dst ops j = some t → j < i ∧ ∃ e ∈ o.after, Region.binds .any e = true ∧ e.on = j) ∧ (∀ e ∈ o.after, Region.binds .any e = true → e.on < i) := fun i hi => by
    have h1 := hs i hi
    dsimp only at h1
    cases ho : ops[i]? with
    | none => rw [ho] at h1; cases h1
    | some o =>
      rw [ho] at h1
      simp only [Bool.and_eq_true, if_pos hi] at h1
      obtain ⟨_, ⟨⟨⟨g1, g2⟩, g4⟩, _⟩, g6⟩ := h1
      refine ⟨o, rfl, by simpa using g1, (fun cs b hsel => by rw [hsel] at g2; cases g2), fun t ht j hj hd => ?_, fun e he hb => ?_⟩
      · have h2 := List.all_eq_true.1 g4 (.tmp t) (by simpa using ht)
        dsimp only at h2
        have h3 := List.all_eq_true.1 h2 j (List.mem_range.2 hj)
        simp only [Bool.or_eq_true, bne_iff_ne, Bool.and_eq_true, decide_eq_true_eq, List.any_eq_true, beq_iff_eq] at h3
        rcases h3 with h3 | ⟨h3, e, he, h4⟩
        · exact absurd hd h3
        · exact ⟨h3, e, by simpa using he, h4⟩
      · have h2 := Array.all_eq_true_iff_forall_mem.1 g6 e he
        rw [hb] at h2
        simpa using h2
  have fin : ∀ (listed : Array Bool), listed.size = ops.size → Region.ready .any ops listed = [] → ∀ i, i < ops.size → listed.getD i false = true := by
    intro listed hl hr i
    induction i using Nat.strongRecOn with
    | _ i ih =>
      intro hi
      by_cases hb : listed.getD i false = true
      · exact hb
      · exfalso
        have hi' : i < listed.size := by omega
        have h0 : listed.getD i true = false := by
          simp [hi'] at hb ⊢
          exact hb
        obtain ⟨o, ho, _, _, _, hlow⟩ := hop i hi
        have hm : i ∈ Region.ready .any ops listed := by
          rw [mem_ready]
          refine ⟨h0, o, ho, fun e he hbd => ?_⟩
          have := hlow e he hbd
          exact ih e.on this (by omega)
        rw [hr] at hm
        cases hm
  have key : ∀ (fuel : Nat) (listed : Array Bool) (ρ : Nat → Value) (w : World), listed.size = ops.size → listed.toList.count false = fuel → C (fun j => listed.getD j false) ρ w → (∀ j o', ops[j]? = some o' → listed.getD j false = true → ∀ e ∈ o'.after, Region.binds .any e = true → listed.getD e.on false = true) →
      wpAny P .any ops Q fuel listed (part ops a0 ρ (fun j => listed.getD j false) ops.size) w := by
    intro fuel
    induction fuel with
    | zero =>
      intro listed ρ w hl hc hC hdc
      have hall : ∀ i, i < ops.size → listed.getD i false = true := fun i hi => by
        have hm : ¬ false ∈ listed.toList := fun h => by
          have := List.count_pos_iff.2 h
          omega
        have hi' : i < listed.size := by omega
        by_cases hbi : listed[i] = true
        · simp [hi', hbi]
        · exfalso
          have e : listed[i] = false := by simpa using hbi
          exact hm (by rw [← e]; simp)
      refine ⟨?_, by rw [part_all hall]; exact hend _ _ _ hall hC⟩
      refine List.eq_nil_iff_forall_not_mem.2 fun i hi => ?_
      rw [mem_ready] at hi
      obtain ⟨h0, o, ho, _⟩ := hi
      have h1 := hall i (Array.getElem?_eq_some_iff.1 ho).1
      have hi' : i < listed.size := by have := (Array.getElem?_eq_some_iff.1 ho).1; omega
      simp [hi'] at h0 h1
      rw [h0] at h1
      cases h1
    | succ fuel ih =>
      intro listed ρ w hl hc hC hdc
      refine ⟨fun hr => by rw [part_all (fin listed hl hr)]; exact hend _ _ _ (fin listed hl hr) hC, fun i hi => ?_⟩
      rw [mem_ready] at hi
      obtain ⟨h0, o, ho, haft⟩ := hi
      have hin := (Array.getElem?_eq_some_iff.1 ho).1
      have hi' : i < listed.size := by omega
      obtain ⟨o', ho', hgd, hsel, hread, _⟩ := hop i hin
      rw [ho] at ho'
      cases ho'
      have hLi : listed.getD i false = false := by
        simp [hi'] at h0 ⊢
        exact h0
      have hev : execOp (part ops a0 ρ (fun j => listed.getD j false) ops.size).eval o = execOp (canon ops a0 ρ i).eval o := by
        refine execOp_congr o hsel fun x hx => ?_
        cases x with
        | tmp t =>
          refine part_canon (fun i j hij => hone i j t hij) (by omega) fun j hj hd => ?_
          obtain ⟨h1, e, he, hbd, rfl⟩ := hread t hx j (by omega) hd
          exact ⟨h1, haft e he hbd⟩
        | _ => rfl
      have hstp := hstep i o (fun j => listed.getD j false) ρ w (canon ops a0 ρ i).eval ho hLi hC haft hdc (fun j t hj hd ht => by
        rw [canon_part, part_at hd (fun i hi => hone i j t hi hd) rfl i hj, if_pos (by rw [hN]; exact ht)]) (fun t ht => by
        rw [canon_part, part_other i fun j hj _ => by
          have := List.all_eq_true.1 ht j (List.mem_range.2 hj)
          simpa using this]) (fun v => rfl) (fun f => rfl)
      unfold wpOp
      rw [ho]
      dsimp only
      have hw : Region.wanted o (yielded ops (part ops a0 ρ (fun j => listed.getD j false) ops.size).tmps) = true := by
        unfold Region.wanted
        rw [hgd]
      rw [if_pos hw]
      refine .inl ?_
      have hstp' : Gives P o (part ops a0 ρ (fun j => listed.getD j false) ops.size).eval w fun v w' => C (updB (fun j => listed.getD j false) i) (upd ρ i v) w' := by
        unfold Gives at hstp ⊢
        rw [hev]
        exact hstp
      refine hstp'.wp fun v w' hC' => ?_
      have hdst : o.dst = dst ops i := by unfold dst; rw [ho]; rfl
      have hgetD : ∀ j, (listed.setIfInBounds i true).getD j false = if j = i then true else listed.getD j false := fun j => by
        by_cases e : j = i
        · subst e
          rw [if_pos rfl]
          simp [hi']
        · rw [if_neg e]
          exact getD_set_ne false (fun h => e h.symm)
      rw [hdst, part_set hone hLi hin, part_congr (L' := fun j => (listed.setIfInBounds i true).getD j false) (ρ' := upd ρ i v) (fun j => (hgetD j).symm) (fun _ _ => rfl)]
      refine ih (listed.setIfInBounds i true) (upd ρ i v) w' (by simpa using hl) ?_ ?_ ?_
      · rw [Array.toList_setIfInBounds]
        have hi2 : i < listed.toList.length := by simpa using hi'
        have e : listed.toList[i] = false := by
          simp [hi'] at h0
          simpa using h0
        have hpos : 0 < listed.toList.count false := List.count_pos_iff.2 (by rw [← e]; exact List.getElem_mem hi2)
        rw [List.count_set hi2, e, if_pos (by decide), if_neg (by decide)]
        omega
      · have e : (fun j => (listed.setIfInBounds i true).getD j false) = updB (fun j => listed.getD j false) i := funext fun j => by rw [hgetD]; rfl
        rw [e]
        exact hC'
      · intro j o' hj hjl e he hbe
        rw [hgetD] at hjl ⊢
        by_cases e1 : e.on = i
        · rw [if_pos e1]
        · rw [if_neg e1]
          by_cases e2 : j = i
          · subst e2
            rw [ho] at hj
            cases hj
            exact haft e he hbe
          · rw [if_neg e2] at hjl
            exact hdc j o' hj hjl e he hbe
  have hnone : ∀ j, (Array.replicate ops.size false).getD j false = false := fun j => by by_cases hk : j < ops.size <;> simp [hk]
  have h0 : part ops a0 (fun _ => undef) (fun j => (Array.replicate ops.size false).getD j false) ops.size = a0 := by
    have : ∀ k, part ops a0 (fun _ => undef) (fun j => (Array.replicate ops.size false).getD j false) k = a0 := by
      intro k
      induction k with
      | zero => rfl
      | succ k ih =>
        unfold part
        rw [ih, hnone k, if_neg (by decide)]
    exact this _
  have hk := key ops.size (Array.replicate ops.size false) (fun _ => undef) w0 (by simp) (by simp) (by rw [show (fun j => (Array.replicate ops.size false).getD j false) = fun _ => false from funext hnone]; exact h00 _) (fun j o' _ h => by rw [hnone j] at h; cases h)
  rw [h0] at hk
  exact hk

end AnyOrd

end Go.Proofs.YtodlejemkihjnaaDoor

/-
  Lists of edges in memory that a call makes itself.
-/
namespace Go.Proofs.YtodlejemkihjnaaDoor
open Go.RowKit

theorem Tryd.infoEdge : (Tryd.prog.info? 41).map (fun i => (i.zero, i.size, i.bytes)) = some (some (.agg #[.int .i64 0, .int .i64 0]), 2, 16) := by kernel_rfl

def flatE (ps : List (Int × Int)) : List Value := ps.flatMap fun p => [.int .i64 p.1, .int .i64 p.2]

theorem flatE_snoc (ps : List (Int × Int)) (p : Int × Int) : flatE (ps ++ [p]) = flatE ps ++ [.int .i64 p.1, .int .i64 p.2] := by simp [flatE]

theorem flatE_length : ∀ ps : List (Int × Int), (flatE ps).length = ps.length * 2
  | [] => rfl
  | p :: ps => by
    have := flatE_length ps
    simp [flatE] at this ⊢
    omega

theorem flatE_at : ∀ (ps : List (Int × Int)) (j : Nat) (p : Int × Int), ps[j]? = some p → (flatE ps)[j * 2]? = some (.int .i64 p.1) ∧ (flatE ps)[j * 2 + 1]? = some (.int .i64 p.2)
  | [], j, p, h => by simp at h
  | q :: ps, 0, p, h => by
    simp at h
    subst h
    simp [flatE]
  | q :: ps, j + 1, p, h => by
    simp at h
    have := flatE_at ps j p h
    have e : (j + 1) * 2 = j * 2 + 1 + 1 := by omega
    rw [e]
    simpa [flatE] using this

theorem addrE (g j : Nat) : ((⟨g, 0, none⟩ : Addr).add j) = ⟨g, j, none⟩ := by
  by_cases h : j = 0
  · simp [Addr.add, h]
  · simp [Addr.add, h]

/-- v is a slice of the edges es, laid since block B. -/
def OwnE (w : World) (B : Nat) (v : Value) (es : List (Int × Int)) : Prop := w.ownsRow B 41 2 v es.length (flatE es)

theorem OwnE.form {w : World} {B : Nat} {v : Value} {es : List (Int × Int)} (h : OwnE w B v es) : ∃ ao cap, v = .slice ao es.length cap ∧ es.length ≤ cap ∧ cap ≤ maxLen ∧ EdgesAt w ao es ∧ (∀ x, ao = some x → B ≤ x.block ∧ x.block < w.heap.size) := by
  have h' := h
  unfold OwnE at h'
  rcases h.2 with ⟨rfl, h0⟩ | ⟨g, cap, cur, rfl, hg, hh, hc, hm, _⟩
  · refine ⟨none, 0, by rw [h0], by omega, Nat.zero_le _, fun j p hj => ?_, fun x h => by cases h⟩
    rw [List.length_eq_zero_iff.1 h0] at hj
    simp at hj
  · refine ⟨_, cap, rfl, hc, hm, fun j p hj => ⟨g, 0, rfl, ?_⟩, fun x h => by cases h; exact ⟨hg, lt_of_block hh⟩⟩
    have hcl := World.ownsRow.cells h' (g := g) rfl
    simp only [addrE] at hcl
    obtain ⟨h0, h1⟩ := flatE_at es j p hj
    rw [Nat.zero_add]
    exact ⟨hcl _ _ h0, hcl _ _ h1⟩

theorem OwnE.below {w w' : World} {B A : Nat} {v : Value} {ps : List (Int × Int)} (h : OwnE w B v ps) (hb : Below A w w') (hA : w.heap.size ≤ A) : OwnE w' B v ps := by
  refine ⟨h.1, ?_⟩
  rcases h.2 with h | ⟨g, cap, cur, e, hgB, hh, hr⟩
  · exact .inl h
  · exact .inr ⟨g, cap, cur, e, hgB, (hb.block g (by have := lt_of_block hh; omega)).trans hh, hr⟩

theorem OwnE.alloc {w : World} {B : Nat} {v : Value} {ps : List (Int × Int)} (h : OwnE w B v ps) (o : Obj) : OwnE (w.alloc o) B v ps := World.ownsRow.alloc h o

theorem OwnE.some {w : World} {B : Nat} {v : Value} {es : List (Int × Int)} (h : OwnE w B v es) (hn : v ≠ .slice none 0 0) : ∃ g cap, v = .slice (some ⟨g, 0, none⟩) es.length cap := by
  rcases h.2 with ⟨rfl, _⟩ | ⟨g, cap, cur, rfl, _⟩
  · exact absurd rfl hn
  · exact ⟨g, cap, rfl⟩

theorem OwnE.far {w : World} {B b : Nat} {v : Value} {ps : List (Int × Int)} (h : OwnE w B v ps) (hb : b < B) : v.ownBlock ≠ Option.some b := by
  obtain ⟨ao, cap, rfl, _, _, _, hx⟩ := h.form
  cases ao with
  | none => simp [Value.ownBlock]
  | some x => have := hx x rfl; simp [Value.ownBlock]; omega

/-- Stores into another block leave it; it may be said of an earlier block. -/
theorem OwnE.set2 {w : World} {B A b : Nat} {v : Value} {ps : List (Int × Int)} (h : OwnE w B v ps) (hA : A ≤ b ∧ b < B) (x y : Value) : OwnE ((w.setCell ⟨b, 0, none⟩ x).setCell ⟨b, 1, none⟩ y) A v ps := by
  refine ⟨h.1, ?_⟩
  rcases h.2 with h | ⟨g, cap, cur, e, hgB, hh, hr⟩
  · exact .inl h
  · refine .inr ⟨g, cap, cur, e, by omega, ?_, hr⟩
    rw [heap_setCell_other _ ⟨b, 1, none⟩ g y (by simp; omega), heap_setCell_other _ ⟨b, 0, none⟩ g x (by simp; omega)]
    exact hh

theorem OwnE.lower {w : World} {B A : Nat} {v : Value} {ps : List (Int × Int)} (h : OwnE w B v ps) (hA : A ≤ B) : OwnE w A v ps := by
  refine ⟨h.1, ?_⟩
  rcases h.2 with h | ⟨g, cap, cur, e, hgB, hh, hr⟩
  · exact .inl h
  · exact .inr ⟨g, cap, cur, e, by omega, hh, hr⟩

theorem OwnE.nil (w : World) (B : Nat) : OwnE w B (.slice none 0 0) [] := World.ownsRow_nil _ _ _ _

theorem new_two_e (W : World) (k : Nat) (hk : W.heap.size = k) (a b : Value) (t : TypeId) : ∀ j u, [a, b][j]? = some u → (W.alloc (.cells #[a, b] t)).cell? ((⟨k, 0, none⟩ : Addr).add j) = some u := by
  subst hk
  exact World.news_of_block (cs := #[a, b]) (t := t) (fr := (0, 0)) (heap_alloc_new W _)

end Go.Proofs.YtodlejemkihjnaaDoor

/-
  Edges that lie there, cell by cell.
-/
namespace Go.Proofs.YtodlejemkihjnaaDoor
open Go.RowKit

theorem edge_news' {W : World} {y : Addr} {es : List (Int × Int)} (he : EdgesAt W (some y) es) : ∀ j u, (flatE es)[j]? = some u → W.cell? (y.add j) = some u := by
  intro j u hj
  have hjl := (List.getElem?_eq_some_iff.1 hj).1
  rw [flatE_length] at hjl
  obtain ⟨p, hp⟩ : ∃ p, es[j / 2]? = some p := ⟨_, List.getElem?_eq_getElem (by omega)⟩
  obtain ⟨b, o, e, c0, c1⟩ := he (j / 2) p hp
  cases e
  obtain ⟨f0, f1⟩ := flatE_at es (j / 2) p hp
  have ea : ((⟨b, o, none⟩ : Addr).add j) = ⟨b, o + j, none⟩ := by
    by_cases h0 : j = 0 <;> simp [Addr.add, h0]
  rw [ea]
  by_cases hm : j % 2 = 0
  · have e : j / 2 * 2 = j := by omega
    rw [e] at f0 c0
    rw [f0] at hj
    cases hj
    exact c0
  · have e : j / 2 * 2 + 1 = j := by omega
    rw [e] at f1
    have e3 : o + j / 2 * 2 + 1 = o + j := by omega
    rw [e3] at c1
    rw [f1] at hj
    cases hj
    exact c1

end Go.Proofs.YtodlejemkihjnaaDoor

/-
  A block of numbers that a call makes.
-/
namespace Go.Proofs.YtodlejemkihjnaaDoor
open Go.RowKit

theorem Tryd.infoNum : (Tryd.prog.info? 3).map (fun i => (i.zero, i.size, i.bytes)) = some (some (.int .i64 0), 1, 8) := by kernel_rfl

/-- Block g holds just the numbers l. -/
def IntsBlk (w : World) (g : Nat) (l : List Int) : Prop := w.heap[g]? = some (.cells (l.map (Value.int .i64)).toArray 3 (0, 0))

section
variable {w w' : World} {g : Nat} {l : List Int}
theorem IntsBlk.lt (h : IntsBlk w g l) : g < w.heap.size := lt_of_block h
theorem IntsBlk.cell (h : IntsBlk w g l) {i : Nat} {x : Int} (hx : l[i]? = some x) : w.cell? ⟨g, i, none⟩ = some (.int .i64 x) := by
  unfold IntsBlk at h
  simp [World.cell?, h, hx]
theorem IntsBlk.free (h : IntsBlk w g l) (i : Nat) : w.frozen? ⟨g, i, none⟩ = false := by
  unfold IntsBlk at h
  simp [World.frozen?, h]
theorem IntsBlk.set (h : IntsBlk w g l) (i : Nat) (x : Int) : IntsBlk (w.setCell ⟨g, i, none⟩ (.int .i64 x)) g (l.set i x) := by
  unfold IntsBlk at h ⊢
  rw [heap_setCell_same w g i _ _ _ h]
  simp [List.map_set]
theorem IntsBlk.below {B : Nat} (h : IntsBlk w g l) (hb : Below B w w') (hB : g < B) : IntsBlk w' g l := (hb.block g hB).trans h
theorem IntsBlk.later (h : IntsBlk w g l) (hb : Below w.heap.size w w') : IntsBlk w' g l := (hb.block g h.lt).trans h
theorem IntsBlk.alloc (h : IntsBlk w g l) (o : Obj) : IntsBlk (w.alloc o) g l := (Below.heap_alloc w o g h.lt).trans h
end

theorem made_zeros (n : Nat) : (madeCells #[.int .i64 0] n).toList = (List.replicate n (0 : Int)).map (Value.int .i64) := by
  rw [toList_madeCells_one, List.map_replicate]

/-- A list that was made at its full length. -/
theorem ints_of_row {w : World} {B g n : Nat} {xs : List Int} (h : w.ownsRow B 3 1 (.slice (some ⟨g, 0, none⟩) n n) n (xs.map (Value.int .i64))) : IntsBlk w g xs := by
  rcases h.2 with ⟨h, _⟩ | ⟨g', cap, cur, e, _, hh, _, _, hs, ht⟩
  · cases h
  cases e
  have e1 : cur.toList = xs.map (Value.int .i64) := by
    rw [← ht]
    exact (List.take_of_length_le (by simp; omega)).symm
  unfold IntsBlk
  rw [hh, ← e1]

end Go.Proofs.YtodlejemkihjnaaDoor
