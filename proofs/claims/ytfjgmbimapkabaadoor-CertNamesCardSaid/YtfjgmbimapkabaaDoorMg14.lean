import Derived.Test.YtfjgmbimapkabaaDoorMg13
import Derived.Test.YtfjgmbimapkabaaDoorMg09
/-
  A region that draws its order, each of whose operations gives a value of its own, known ahead; in no round.
-/
namespace Go.Proofs.YtfjgmbimapkabaaDoor
open Go.RowKit

namespace AnyOrd

def updB (L : Nat → Bool) (i : Nat) : Nat → Bool := fun j => if j = i then true else L j

theorem part_all {ops : Array Oper} {a0 : Act} {ρ : Nat → Value} {L : Nat → Bool} : ∀ {k : Nat}, (∀ i, i < k → L i = true) → part ops a0 ρ L k = canon ops a0 ρ k
  | 0, _ => rfl
  | k + 1, h => by
    unfold part canon
    rw [if_pos (h k (by omega)), part_all fun i hi => h i (by omega)]

theorem anyP {P : Program} {ops : Array Oper} {Q : Exit → Act → World → Prop} {a0 : Act} {w0 : World} (val : Nat → Value) (C : (Nat → Bool) → World → Prop) (N : Nat) (hN : a0.tmps.size = N) (hsh : shape ops ops.size (fun _ => []) = true)
    (h00 : C (fun _ => false) w0)
    (hstep : ∀ i o (L : Nat → Bool) w (ev : Operand → Value), ops[i]? = some o → L i = false → C L w → (∀ e ∈ o.after, Region.binds .any e = true → L e.on = true) → (∀ j o', ops[j]? = some o' → L j = true → ∀ e ∈ o'.after, Region.binds .any e = true → L e.on = true) →
      (∀ j t, j < i → dst ops j = some t → t < N → ev (.tmp t) = val j) → (∀ t, ((List.range i).all fun j => dst ops j != some t) = true → ev (.tmp t) = a0.eval (.tmp t)) → (∀ v, ev (.const v) = v) → (∀ f, ev (.func f) = .func (.func f) #[] #[]) →
      Gives P o ev w fun v w' => v = val i ∧ C (updB L i) w')
    (hend : ∀ L w, (∀ i, i < ops.size → L i = true) → C L w → Q .normal (canon ops a0 val ops.size) w) :
    wpAny P .any ops Q ops.size (Array.replicate ops.size false) a0 w0 := by
  have hs := fun i (hi : i < ops.size) => List.all_eq_true.1 hsh i (List.mem_range.2 hi)
  have hlt : ∀ {j t}, dst ops j = some t → j < ops.size := fun {j t} h => by
    rcases Nat.lt_or_ge j ops.size with h1 | h1
    · exact h1
    · unfold dst at h; rw [Array.getElem?_eq_none h1] at h; cases h
  have hone : ∀ i j t, i ≠ j → dst ops j = some t → dst ops i ≠ some t := fun i j t hij hj hi => by
    have h1 := hs j (hlt hj)
    dsimp only at h1
    cases ho : ops[j]? with
    | none => rw [ho] at h1; cases h1
    | some o =>
      have hd : o.dst = some t := by unfold dst at hj; rw [ho] at hj; exact hj
      rw [ho] at h1
      simp only [Bool.and_eq_true] at h1
      have h2 := h1.1
      rw [hd] at h2
      have h3 := List.all_eq_true.1 h2 i (List.mem_range.2 (hlt hi))
      simp only [Bool.or_eq_true, beq_iff_eq, bne_iff_ne] at h3
      rcases h3 with h3 | h3
      · exact hij h3
      · exact h3 hi
  have hop : ∀ i, i < ops.size → ∃ o, ops[i]? = some o ∧ o.guard = none ∧ (∀ cs b, o.op ≠ .select cs b) ∧
      (∀ t, Operand.tmp t ∈ o.op.operands → ∀ j, j < ops.size → dst ops j = some t → j < i ∧ ∃ e ∈ o.after, Region.binds .any e = true ∧ e.on = j) ∧ (∀ e ∈ o.after, Region.binds .any e = true → e.on < i) := fun i hi => by
    have h1 := hs i hi
    dsimp only at h1
    cases ho : ops[i]? with
    | none => rw [ho] at h1; cases h1
    | some o =>
      rw [ho] at h1
      simp only [Bool.and_eq_true, if_pos hi] at h1
      obtain ⟨_, ⟨⟨⟨g1, g2⟩, g4⟩, _⟩, g6⟩ := h1
      refine ⟨o, rfl, by simpa using g1, (fun cs b hsel => by rw [hsel] at g2; cases g2), fun t ht j hj hd => ?_, fun e he hb => ?_⟩
      · have h2 := List.all_eq_true.1 g4 (.tmp t) (by simpa using ht)
        dsimp only at h2
        have h3 := List.all_eq_true.1 h2 j (List.mem_range.2 hj)
        simp only [Bool.or_eq_true, bne_iff_ne, Bool.and_eq_true, decide_eq_true_eq, List.any_eq_true, beq_iff_eq] at h3
        rcases h3 with h3 | ⟨h3, e, he, h4⟩
        · exact absurd hd h3
        · exact ⟨h3, e, by simpa using he, h4⟩
      · have h2 := Array.all_eq_true_iff_forall_mem.1 g6 e he
        rw [hb] at h2
        simpa using h2
  have fin : ∀ (listed : Array Bool), listed.size = ops.size → Region.ready .any ops listed = [] → ∀ i, i < ops.size → listed.getD i false = true := by
    intro listed hl hr i
    induction i using Nat.strongRecOn with
    | _ i ih =>
      intro hi
      by_cases hb : listed.getD i false = true
      · exact hb
      · exfalso
        have hi' : i < listed.size := by omega
        have h0 : listed.getD i true = false := by
          simp [hi'] at hb ⊢
          exact hb
        obtain ⟨o, ho, _, _, _, hlow⟩ := hop i hi
        have hm : i ∈ Region.ready .any ops listed := by
          rw [mem_ready]
          refine ⟨h0, o, ho, fun e he hbd => ?_⟩
          have := hlow e he hbd
          exact ih e.on this (by omega)
        rw [hr] at hm
        cases hm
  have key : ∀ (fuel : Nat) (listed : Array Bool) (w : World), listed.size = ops.size → listed.toList.count false = fuel → C (fun j => listed.getD j false) w → (∀ j o', ops[j]? = some o' → listed.getD j false = true → ∀ e ∈ o'.after, Region.binds .any e = true → listed.getD e.on false = true) →
      wpAny P .any ops Q fuel listed (part ops a0 val (fun j => listed.getD j false) ops.size) w := by
    intro fuel
    induction fuel with
    | zero =>
      intro listed w hl hc hC hdc
      have hall : ∀ i, i < ops.size → listed.getD i false = true := fun i hi => by
        have hm : ¬ false ∈ listed.toList := fun h => by
          have := List.count_pos_iff.2 h
          omega
        have hi' : i < listed.size := by omega
        by_cases hbi : listed[i] = true
        · simp [hi', hbi]
        · exfalso
          have e : listed[i] = false := by simpa using hbi
          exact hm (by rw [← e]; simp)
      refine ⟨?_, by rw [part_all hall]; exact hend _ _ hall hC⟩
      refine List.eq_nil_iff_forall_not_mem.2 fun i hi => ?_
      rw [mem_ready] at hi
      obtain ⟨h0, o, ho, _⟩ := hi
      have h1 := hall i (Array.getElem?_eq_some_iff.1 ho).1
      have hi' : i < listed.size := by have := (Array.getElem?_eq_some_iff.1 ho).1; omega
      simp [hi'] at h0 h1
      rw [h0] at h1
      cases h1
    | succ fuel ih =>
      intro listed w hl hc hC hdc
      refine ⟨fun hr => by rw [part_all (fin listed hl hr)]; exact hend _ _ (fin listed hl hr) hC, fun i hi => ?_⟩
      rw [mem_ready] at hi
      obtain ⟨h0, o, ho, haft⟩ := hi
      have hin := (Array.getElem?_eq_some_iff.1 ho).1
      have hi' : i < listed.size := by omega
      obtain ⟨o', ho', hgd, hsel, hread, _⟩ := hop i hin
      rw [ho] at ho'
      cases ho'
      have hLi : listed.getD i false = false := by
        simp [hi'] at h0 ⊢
        exact h0
      have hev : execOp (part ops a0 val (fun j => listed.getD j false) ops.size).eval o = execOp (canon ops a0 val i).eval o := by
        refine execOp_congr o hsel fun x hx => ?_
        cases x with
        | tmp t =>
          refine part_canon (fun i j hij => hone i j t hij) (by omega) fun j hj hd => ?_
          obtain ⟨h1, e, he, hbd, rfl⟩ := hread t hx j (by omega) hd
          exact ⟨h1, haft e he hbd⟩
        | _ => rfl
      have hstp := hstep i o (fun j => listed.getD j false) w (canon ops a0 val i).eval ho hLi hC haft hdc (fun j t hj hd ht => by
        rw [canon_part, part_at hd (fun i hi => hone i j t hi hd) rfl i hj, if_pos (by rw [hN]; exact ht)]) (fun t ht => by
        rw [canon_part, part_other i fun j hj _ => by
          have := List.all_eq_true.1 ht j (List.mem_range.2 hj)
          simpa using this]) (fun v => rfl) (fun f => rfl)
      unfold wpOp
      rw [ho]
      dsimp only
      have hw : Region.wanted o (yielded ops (part ops a0 val (fun j => listed.getD j false) ops.size).tmps) = true := by
        unfold Region.wanted
        rw [hgd]
      rw [if_pos hw]
      refine .inl ?_
      have hstp' : Gives P o (part ops a0 val (fun j => listed.getD j false) ops.size).eval w fun v w' => v = val i ∧ C (updB (fun j => listed.getD j false) i) w' := by
        unfold Gives at hstp ⊢
        rw [hev]
        exact hstp
      refine hstp'.wp fun v w' hv => ?_
      obtain ⟨rfl, hC'⟩ := hv
      have hdst : o.dst = dst ops i := by unfold dst; rw [ho]; rfl
      have hgetD : ∀ j, (listed.setIfInBounds i true).getD j false = if j = i then true else listed.getD j false := fun j => by
        by_cases e : j = i
        · subst e
          rw [if_pos rfl]
          simp [hi']
        · rw [if_neg e]
          exact getD_set_ne false (fun h => e h.symm)
      rw [hdst, part_set hone hLi hin, part_congr (L' := fun j => (listed.setIfInBounds i true).getD j false) (ρ' := val) (fun j => (hgetD j).symm) (fun j _ => by unfold upd; split; rename_i e; rw [e]; rfl)]
      refine ih (listed.setIfInBounds i true) w' (by simpa using hl) ?_ ?_ ?_
      · rw [Array.toList_setIfInBounds]
        have hi2 : i < listed.toList.length := by simpa using hi'
        have e : listed.toList[i] = false := by
          simp [hi'] at h0
          simpa using h0
        have hpos : 0 < listed.toList.count false := List.count_pos_iff.2 (by rw [← e]; exact List.getElem_mem hi2)
        rw [List.count_set hi2, e, if_pos (by decide), if_neg (by decide)]
        omega
      · have e : (fun j => (listed.setIfInBounds i true).getD j false) = updB (fun j => listed.getD j false) i := funext fun j => by rw [hgetD]; rfl
        rw [e]
        exact hC'
      · intro j o' hj hjl e he hbe
        rw [hgetD] at hjl ⊢
        by_cases e1 : e.on = i
        · rw [if_pos e1]
        · rw [if_neg e1]
          by_cases e2 : j = i
          · subst e2
            rw [ho] at hj
            cases hj
            exact haft e he hbe
          · rw [if_neg e2] at hjl
            exact hdc j o' hj hjl e he hbe
  have hnone : ∀ j, (Array.replicate ops.size false).getD j false = false := fun j => by by_cases hk : j < ops.size <;> simp [hk]
  have h0 : part ops a0 val (fun j => (Array.replicate ops.size false).getD j false) ops.size = a0 := by
    have : ∀ k, part ops a0 val (fun j => (Array.replicate ops.size false).getD j false) k = a0 := by
      intro k
      induction k with
      | zero => rfl
      | succ k ih =>
        unfold part
        rw [ih, hnone k, if_neg (by decide)]
    exact this _
  have hk := key ops.size (Array.replicate ops.size false) w0 (by simp) (by simp) (by rw [show (fun j => (Array.replicate ops.size false).getD j false) = fun _ => false from funext hnone]; exact h00) (fun j o' _ h => by rw [hnone j] at h; cases h)
  rw [h0] at hk
  exact hk

end AnyOrd

end Go.Proofs.YtfjgmbimapkabaaDoor
/-
  What lies in memory in a drawn region whose operations that write come up in one order.
-/
namespace Go.Proofs.YtfjgmbimapkabaaDoor
open Go.RowKit

namespace AnyM
/-- The worlds behind the operations that write, the last of them first. -/
def memC (A : World) : List (Nat × World) → (Nat → Bool) → World → Prop
  | [], _, V => V = A
  | (k, w) :: r, L, V => if L k = true then V = w else memC A r L V
theorem other {A : World} {i : Nat} : ∀ {r : List (Nat × World)} {L : Nat → Bool} {V : World}, (r.all fun q => q.1 != i) = true → memC A r L V → memC A r (AnyOrd.updB L i) V
  | [], _, _, _, h => h
  | (k, w) :: r, L, V, hk, h => by
    rw [List.all_cons, Bool.and_eq_true] at hk
    have e1 : AnyOrd.updB L i k = L k := if_neg (fun e => by simp [e] at hk)
    unfold memC at h ⊢
    rw [e1]
    split
    · rename_i hl
      rw [if_pos hl] at h
      exact h
    · rename_i hl
      rw [if_neg hl] at h
      exact other hk.2 h
theorem gives_exact {P : Program} {o : Oper} {ev : Operand → Value} {R : Value → World → Prop} {f : FuncId} {args : Array Value} {v : Value} {V V' : World} (h : (execOp ev o).run P V = .ok (.enter f args) V) (hc : Calls P f args V fun e w' => e = .returned v ∧ w' = V') (hR : R v V') : AnyOrd.Gives P o ev V R := by
  unfold AnyOrd.Gives
  rw [h]
  exact hc.mono fun e w' ⟨h1, h2⟩ => ⟨v, h1, by rw [h2]; exact hR⟩
/-- The same, of what is known of the worlds. -/
def memQ (A : World → Prop) : List (Nat × (World → Prop)) → (Nat → Bool) → World → Prop
  | [], _, V => A V
  | (k, Q) :: r, L, V => if L k = true then Q V else memQ A r L V
theorem otherQ {A : World → Prop} {i : Nat} : ∀ {r : List (Nat × (World → Prop))} {L : Nat → Bool} {V : World}, (r.all fun q => q.1 != i) = true → memQ A r L V → memQ A r (AnyOrd.updB L i) V
  | [], _, _, _, h => h
  | (k, w) :: r, L, V, hk, h => by
    rw [List.all_cons, Bool.and_eq_true] at hk
    have e1 : AnyOrd.updB L i k = L k := if_neg (fun e => by simp [e] at hk)
    unfold memQ at h ⊢
    rw [e1]
    split
    · rename_i hl
      rw [if_pos hl] at h
      exact h
    · rename_i hl
      rw [if_neg hl] at h
      exact otherQ hk.2 h
theorem gives_post {P : Program} {o : Oper} {ev : Operand → Value} {R : Value → World → Prop} {f : FuncId} {args : Array Value} {v : Value} {V : World} {S : World → Prop} (h : (execOp ev o).run P V = .ok (.enter f args) V) (hc : Calls P f args V fun e w' => e = .returned v ∧ S w') (hR : ∀ w', S w' → R v w') : AnyOrd.Gives P o ev V R := by
  unfold AnyOrd.Gives
  rw [h]
  exact hc.mono fun e w' ⟨h1, h2⟩ => ⟨v, h1, hR w' h2⟩
/-- A row that only reads. -/
theorem gv {P : Program} {o : Oper} {ev : Operand → Value} {v : Value} {i : Nat} {A : World} {r : List (Nat × World)} {L : Nat → Bool} {V : World} (hC : memC A r L V) (h : (execOp ev o).run P V = .ok (.value v) V) (hr : (r.all fun q => q.1 != i) = true) : AnyOrd.Gives P o ev V fun u w' => u = v ∧ memC A r (AnyOrd.updB L i) w' := AnyOrd.gives_value h ⟨rfl, other hr hC⟩
end AnyM
namespace AnyOrd
/-- What n waits for, k steps deep. -/
def needs (ops : Array Oper) : Nat → Nat → Nat → Bool
  | 0, _, _ => false
  | k + 1, n, i => match ops[n]? with
    | none => false
    | some o => o.after.toList.any fun e => Region.binds .any e && (e.on == i || needs ops k e.on i)
/-- The last one waits for all ahead of it. -/
def lastB (ops : Array Oper) (n : Nat) : Bool := (List.range n).all (needs ops 3 n)
theorem needs_on {ops : Array Oper} {L : Nat → Bool} (hd : ∀ j o', ops[j]? = some o' → L j = true → ∀ e ∈ o'.after, Region.binds .any e = true → L e.on = true) {i : Nat} : ∀ {k n : Nat}, needs ops k n i = true → L n = true → L i = true
  | 0, _, h, _ => by cases h
  | k + 1, n, h, hL => by
    unfold needs at h
    cases ho : ops[n]? with
    | none => rw [ho] at h; cases h
    | some o =>
      rw [ho] at h
      obtain ⟨e, he, h1⟩ := List.any_eq_true.1 h
      simp only [Bool.and_eq_true, Bool.or_eq_true, beq_iff_eq] at h1
      have h2 := hd n o ho hL e (by simpa using he) h1.1
      rcases h1.2 with rfl | h3
      · exact h2
      · exact needs_on hd h3 h2
theorem last_all {ops : Array Oper} {n : Nat} {L : Nat → Bool} (hl : lastB ops n = true) (hd : ∀ j o', ops[j]? = some o' → L j = true → ∀ e ∈ o'.after, Region.binds .any e = true → L e.on = true) (hL : L n = true) (i : Nat) (hi : i < n) : L i = true := needs_on hd (List.all_eq_true.1 hl i (List.mem_range.2 hi)) hL
theorem last_no {ops : Array Oper} {n i : Nat} {L : Nat → Bool} (hl : lastB ops n = true) (hd : ∀ j o', ops[j]? = some o' → L j = true → ∀ e ∈ o'.after, Region.binds .any e = true → L e.on = true) (hLi : L i = false) (hi : i < n + 1) : L n = false := by
  cases h : L n with
  | false => rfl
  | true =>
    rcases Nat.lt_or_ge i n with h1 | h1
    · rw [last_all hl hd h i h1] at hLi; cases hLi
    · obtain rfl : i = n := by omega
      rw [h] at hLi; cases hLi
end AnyOrd
end Go.Proofs.YtfjgmbimapkabaaDoor
/-
  A drawn region in which a list is made, then appended, and a store comes behind all else.
-/
namespace Go.Proofs.YtfjgmbimapkabaaDoor
open Go.RowKit

namespace AnyOrd
theorem anyK {P : Program} {ops : Array Oper} {Q : Exit → Act → World → Prop} {a0 : Act} {w0 : World} (val : Nat → Value) (w1 w2 w3 : World) (N n c d : Nat) (hN : a0.tmps.size = N) (hsh : shape ops ops.size (fun _ => []) = true) (hn : ops.size = n + 1) (hcd : c < d ∧ d < n) (hl : lastB ops n = true) (hdc' : needs ops 3 d c = true)
    (hstep : ∀ i o w (ev : Operand → Value), ops[i]? = some o → i < n → i ≠ c → i ≠ d → w = w0 ∨ w = w1 ∨ w = w2 →
      (∀ j t, j < i → dst ops j = some t → t < N → ev (.tmp t) = val j) → (∀ t, ((List.range i).all fun j => dst ops j != some t) = true → ev (.tmp t) = a0.eval (.tmp t)) → (execOp ev o).run P w = .ok (.value (val i)) w)
    (h1 : ∀ o (ev : Operand → Value), ops[c]? = some o → (∀ j t, j < c → dst ops j = some t → t < N → ev (.tmp t) = val j) → (execOp ev o).run P w0 = .ok (.value (val c)) w1)
    (h2 : ∀ o (ev : Operand → Value), ops[d]? = some o → (∀ j t, j < d → dst ops j = some t → t < N → ev (.tmp t) = val j) → (execOp ev o).run P w1 = .ok (.value (val d)) w2)
    (h3 : ∀ o (ev : Operand → Value), ops[n]? = some o →
      (∀ j t, j < n → dst ops j = some t → t < N → ev (.tmp t) = val j) → (∀ t, ((List.range n).all fun j => dst ops j != some t) = true → ev (.tmp t) = a0.eval (.tmp t)) → val n = undef ∧ (execOp ev o).run P w2 = .ok .skip w3)
    (hend : Q .normal (canon ops a0 val ops.size) w3) : wpAny P .any ops Q ops.size (Array.replicate ops.size false) a0 w0 := by
  refine anyP val (AnyM.memC w0 [(n, w3), (d, w2), (c, w1)]) N hN hsh (by simp [AnyM.memC]) ?_ ?_
  · intro i o L w ev ho hLi hC haft hdc he1 he2 _ _
    have hi : i < n + 1 := by rw [← hn]; exact (Array.getElem?_eq_some_iff.1 ho).1
    have hLn : L n = false := last_no hl hdc hLi hi
    have hC' := hC
    simp only [AnyM.memC, hLn, Bool.false_eq_true, if_false] at hC
    have hup : ∀ {i k}, ops[i]? = some o → needs ops 3 i k = true → L k = true := fun {i k} ho' h => by
      unfold needs at h
      rw [ho'] at h
      obtain ⟨e, he, h1⟩ := List.any_eq_true.1 h
      simp only [Bool.and_eq_true, Bool.or_eq_true, beq_iff_eq] at h1
      have h2 := haft e (by simpa using he) h1.1
      rcases h1.2 with rfl | h3
      · exact h2
      · exact needs_on hdc h3 h2
    by_cases e1 : i = n
    · subst e1
      have hd := hup ho (List.all_eq_true.1 hl d (List.mem_range.2 hcd.2))
      rw [if_pos hd] at hC
      obtain ⟨q1, q2⟩ := h3 o ev ho he1 he2
      rw [hC]
      exact gives_skip q2 ⟨q1.symm, by simp [AnyM.memC, updB]⟩
    · have en : updB L i n = false := (if_neg (fun h => e1 h.symm)).trans hLn
      by_cases e2 : i = d
      · subst e2
        rw [if_neg (by rw [hLi]; simp), if_pos (hup ho hdc')] at hC
        rw [hC]
        refine gives_value (h2 o ev ho he1) ⟨rfl, ?_⟩
        simp [AnyM.memC, en, show updB L i i = true from if_pos rfl]
      · have ed : updB L i d = L d := if_neg (fun h => e2 h.symm)
        by_cases e3 : i = c
        · subst e3
          have hLd : L d = false := by
            cases h : L d with
            | false => rfl
            | true => rw [needs_on hdc hdc' h] at hLi; cases hLi
          rw [hLd, if_neg (by simp), if_neg (by rw [hLi]; simp)] at hC
          rw [hC]
          refine gives_value (h1 o ev ho he1) ⟨rfl, ?_⟩
          simp [AnyM.memC, en, ed, hLd, show updB L i i = true from if_pos rfl]
        · exact AnyM.gv hC' (hstep i o w ev ho (by omega) e3 e2 (by split at hC; exact .inr (.inr hC); split at hC; exact .inr (.inl hC); exact .inl hC) he1 he2) (by simp; exact ⟨fun h => e1 h.symm, fun h => e2 h.symm, fun h => e3 h.symm⟩)
  · intro L w hall hC
    simp only [AnyM.memC, hall n (by omega), if_true] at hC
    rw [hC]
    exact hend
end AnyOrd
end Go.Proofs.YtfjgmbimapkabaaDoor
/-
  The shape of a list of lists.
-/
namespace Go.Proofs.YtfjgmbimapkabaaDoor
open Go.RowKit

theorem row_form {w : World} {B : Nat} {v : Value} {vs : List Value} {ls : List (List Int)} (h : RowsZ w B v vs ls) (hn : 0 < ls.length) : ∃ g c, v = .slice (some ⟨g, 0, none⟩) ls.length c := by
  rcases h.outer.2 with ⟨rfl, h0⟩ | ⟨g, cap, cur, rfl, _⟩
  · omega
  · exact ⟨g, cap, rfl⟩
theorem row_shape {w : World} {B : Nat} {v : Value} {vs : List Value} {ls : List (List Int)} (h : RowsZ w B v vs ls) : ∃ ao c, v = .slice ao ls.length c := by
  rcases h.outer.2 with ⟨rfl, h0⟩ | ⟨g, cap, cur, rfl, _⟩
  · exact ⟨none, 0, by rw [h0]⟩
  · exact ⟨_, cap, rfl⟩

end Go.Proofs.YtfjgmbimapkabaaDoor
