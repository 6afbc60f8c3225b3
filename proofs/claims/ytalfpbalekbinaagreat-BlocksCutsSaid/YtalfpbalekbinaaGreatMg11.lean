import Derived.Test.YtalfpbalekbinaaGreatMg00
import Derived.Shelf.Abstract
import Derived.Test.YtalfpbalekbinaaGreatMg10
import Derived.Test.YtalfpbalekbinaaGreatMg04
import Derived.Test.YtalfpbalekbinaaGreatMg06
import Derived.Deep.RegionHeld3
import Derived.Deep.QuietTactic
import Derived.BigQuiet
/-
  A region whose operations only make memory, in whatever order: each operation by what it gives, once.
-/
namespace Go.Proofs.YtalfpbalekbinaaGreat
open Go.RowKit

namespace AnyOrd

/-- Where operation i puts what it gives. -/
def dst (ops : Array Oper) (i : Nat) : Option Tmp := (ops[i]?).bind (·.dst)

/-- What an operation gives, of the values of those it waits for; its memory lies from lo to ahead of hi. -/
structure OpSpec where
  deps : List Nat
  post : Value → List Value → Nat → Nat → World → Prop

def upd (ρ : Nat → Value) (i : Nat) (v : Value) : Nat → Value := fun j => if j = i then v else ρ j
def updN (f : Nat → Nat) (i x : Nat) : Nat → Nat := fun j => if j = i then x else f j

/-- The frame when those of L below k have come up. -/
def part (ops : Array Oper) (a0 : Act) (ρ : Nat → Value) (L : Nat → Bool) : Nat → Act
  | 0 => a0
  | i + 1 => if L i then (part ops a0 ρ L i).put (dst ops i) (ρ i) else part ops a0 ρ L i

/-- The frame when all below k have come up, in their order. -/
def canon (ops : Array Oper) (a0 : Act) (ρ : Nat → Value) : Nat → Act
  | 0 => a0
  | i + 1 => (canon ops a0 ρ i).put (dst ops i) (ρ i)

section
variable {ops : Array Oper} {a0 : Act} {ρ : Nat → Value} {L : Nat → Bool}

theorem canon_part (k : Nat) : canon ops a0 ρ k = part ops a0 ρ (fun _ => true) k := by
  induction k with
  | zero => rfl
  | succ k ih => simp [canon, part, ih]

theorem canon_defers (k : Nat) : (canon ops a0 ρ k).defers = a0.defers := by
  induction k with
  | zero => rfl
  | succ k ih =>
    unfold canon
    cases dst ops k with
    | none => exact ih
    | some d => exact ih

theorem put_size (a : Act) (d : Option Tmp) (v : Value) : (a.put d v).tmps.size = a.tmps.size := by
  cases d <;> simp [Act.put]

theorem part_size (k : Nat) : (part ops a0 ρ L k).tmps.size = a0.tmps.size := by
  induction k with
  | zero => rfl
  | succ k ih =>
    unfold part
    split
    · rw [put_size, ih]
    · exact ih

theorem eval_put_same (a : Act) (t : Tmp) (v : Value) : (a.put (some t) v).eval (.tmp t) = if t < a.tmps.size then v else undef := by
  unfold Act.put Act.eval
  dsimp only
  by_cases h : t < a.tmps.size
  · rw [if_pos h]
    simp [h]
  · rw [if_neg h]
    simp
    exact fun h' => absurd h' h

theorem eval_put_none (a : Act) (t : Tmp) (d : Option Tmp) (v : Value) (h : d ≠ some t) : (a.put d v).eval (.tmp t) = a.eval (.tmp t) :=
  Act.eval_put fun d' hd hx => by cases hx; exact h hd

theorem part_other {t : Tmp} (k : Nat) (h : ∀ j, j < k → L j = true → dst ops j ≠ some t) : (part ops a0 ρ L k).eval (.tmp t) = a0.eval (.tmp t) := by
  induction k with
  | zero => rfl
  | succ k ih =>
    have ih' := ih fun j hj => h j (by omega)
    unfold part
    split
    · rename_i hL
      rw [eval_put_none _ _ _ _ (h k (by omega) hL), ih']
    · exact ih'

theorem part_at {t : Tmp} {j : Nat} (hd : dst ops j = some t) (hone : ∀ i, i ≠ j → dst ops i ≠ some t) (hL : L j = true) (k : Nat) (hj : j < k) : (part ops a0 ρ L k).eval (.tmp t) = if t < a0.tmps.size then ρ j else undef := by
  induction k with
  | zero => omega
  | succ k ih =>
    unfold part
    by_cases e : j = k
    · subst e
      rw [if_pos hL, hd, eval_put_same, part_size]
    · have ih' := ih (by omega)
      split
      · rw [eval_put_none _ _ _ _ (hone k (fun h => e h.symm)), ih']
      · exact ih'

/-- An operand reads the same, whether the others have come up or not. -/
theorem part_canon {i n : Nat} {t : Tmp} (hone : ∀ i j, i ≠ j → dst ops j = some t → dst ops i ≠ some t) (hin : i ≤ n) (h : ∀ j, j < n → dst ops j = some t → j < i ∧ L j = true) : (part ops a0 ρ L n).eval (.tmp t) = (canon ops a0 ρ i).eval (.tmp t) := by
  rw [canon_part]
  by_cases hex : ∃ j, j < n ∧ dst ops j = some t
  · obtain ⟨j, hj, hd⟩ := hex
    obtain ⟨h1, h2⟩ := h j hj hd
    rw [part_at hd (fun i hi => hone i j hi hd) h2 n hj, part_at hd (fun i hi => hone i j hi hd) rfl i h1]
  · rw [part_other n fun j hj _ hd => hex ⟨j, hj, hd⟩, part_other i fun j hj _ hd => hex ⟨j, by omega, hd⟩]

/-- One more has come up. -/
theorem part_set {i n : Nat} {v : Value} (hone : ∀ i j t, i ≠ j → dst ops j = some t → dst ops i ≠ some t) (hi : L i = false) (hin : i < n) :
    (part ops a0 ρ L n).put (dst ops i) v = part ops a0 (upd ρ i v) (fun j => if j = i then true else L j) n := by
  have low : ∀ k, k ≤ i → part ops a0 (upd ρ i v) (fun j => if j = i then true else L j) k = part ops a0 ρ L k := by
    intro k
    induction k with
    | zero => exact fun _ => rfl
    | succ k ih =>
      intro hk
      have e : k ≠ i := by omega
      unfold part
      rw [ih (by omega), if_neg e]
      unfold upd
      rw [if_neg e]
  induction n with
  | zero => omega
  | succ n ih =>
    by_cases e : n = i
    · subst e
      unfold part
      rw [if_pos rfl, hi, low n (Nat.le_refl _), if_neg (by decide)]
      simp [upd]
    · have ih' := ih (by omega)
      unfold part
      rw [if_neg e, ← ih']
      unfold upd
      rw [if_neg e]
      split
      · exact Act.put_comm _ _ _ fun d h1 h2 => hone i n d (fun e2 => e e2.symm) h1 h2
      · rfl

theorem part_congr {ρ' : Nat → Value} {L' : Nat → Bool} (hL : ∀ j, L j = L' j) (h : ∀ j, L j = true → ρ j = ρ' j) (k : Nat) : part ops a0 ρ L k = part ops a0 ρ' L' k := by
  induction k with
  | zero => rfl
  | succ k ih =>
    unfold part
    rw [← hL k]
    split
    · rename_i hk
      rw [ih, h k hk]
    · exact ih
end

/-- What is asked of a region's shape, of its first n operations: each puts its value at a place of its own, reads what it waits for, waits for its deps, those lie ahead of it, has no guard; all behind them wait for them. -/
def shape (ops : Array Oper) (n : Nat) (deps : Nat → List Nat) : Bool :=
  (List.range ops.size).all fun i => match ops[i]? with
    | none => false
    | some o => (match o.dst with | none => true | some d => (List.range ops.size).all fun j => j == i || dst ops j != some d) &&
      if i < n then
        o.guard.isNone && (match o.op with | .select _ _ => false | _ => true) &&
        (o.op.operands.toList.all fun x => match x with
          | .tmp t => (List.range ops.size).all fun j => dst ops j != some t || (decide (j < i) && o.after.toList.any fun e => Region.binds .any e && e.on == j)
          | _ => true) &&
        ((deps i).all fun j => decide (j < i) && o.after.toList.any fun e => Region.binds .any e && e.on == j) &&
        (o.after.all fun e => !Region.binds .any e || decide (e.on < i))
      else (List.range n).all fun j => o.after.toList.any fun e => Region.binds .any e && e.on == j

/-- The first n have come up. -/
def heads (size n : Nat) : Array Bool := (List.replicate n true ++ List.replicate (size - n) false).toArray

/-- What operation o gives, read by ev, at w. -/
def Gives (P : Program) (o : Oper) (ev : Operand → Value) (w : World) (R : Value → World → Prop) : Prop :=
  match (execOp ev o).run P w with
  | .ok (.value v) w' => R v w'
  | .ok .skip w' => R undef w'
  | .ok (.enter f args) w' => Calls P f args w' (fun e w'' => ∃ v, e = .returned v ∧ R v w'')
  | _ => False

theorem Gives.wp {P : Program} {o : Oper} {a : Act} {w : World} {R : Value → World → Prop} {K : Act → World → Prop} {Q : Exit → Act → World → Prop} (h : Gives P o a.eval w R) (hK : ∀ v w', R v w' → K (a.put o.dst v) w') : o.wp P a w K Q := by
  unfold Gives at h
  unfold Oper.wp
  generalize (execOp a.eval o).run P w = r at h ⊢
  cases r with
  | ok n w' =>
    cases n <;> simp only [Oper.upon] at h ⊢
    case value v => exact hK v w' h
    case skip => exact hK _ w' h
    case enter f args =>
      refine Calls.mono h fun e w'' he => ?_
      obtain ⟨v, rfl, hv⟩ := he
      exact hK v w'' hv
  | halt x w' => cases h

theorem gives_value {P : Program} {o : Oper} {ev : Operand → Value} {w : World} {R : Value → World → Prop} {v : Value} {w' : World} (h : (execOp ev o).run P w = .ok (.value v) w') (hR : R v w') : Gives P o ev w R := by
  unfold Gives
  rw [h]
  exact hR

theorem gives_skip {P : Program} {o : Oper} {ev : Operand → Value} {w : World} {R : Value → World → Prop} {w' : World} (h : (execOp ev o).run P w = .ok .skip w') (hR : R undef w') : Gives P o ev w R := by
  unfold Gives
  rw [h]
  exact hR

/-- The law: every order of the first n gives what the specs say. -/
theorem any {P : Program} {ops : Array Oper} {Q : Exit → Act → World → Prop} {a0 : Act} {w0 : World} (sp : Nat → OpSpec) (n N : Nat) (hn : n ≤ ops.size) (hN : a0.tmps.size = N) (hsh : shape ops n (fun i => (sp i).deps) = true)
    (hstab : ∀ i, i < n → ∀ v vs lo hi w w', hi ≤ w.heap.size → Below w.heap.size w w' → (sp i).post v vs lo hi w → (sp i).post v vs lo hi w')
    (hstep : ∀ i o (ρ : Nat → Value) w (ev : Operand → Value), i < n → ops[i]? = some o → Below w0.heap.size w0 w → (∀ j ∈ (sp i).deps, ∃ lo hi, w0.heap.size ≤ lo ∧ lo ≤ hi ∧ hi ≤ w.heap.size ∧ (sp j).post (ρ j) ((sp j).deps.map ρ) lo hi w) →
      (∀ j t, j < i → dst ops j = some t → t < N → ev (.tmp t) = ρ j) → (∀ t, ((List.range i).all fun j => dst ops j != some t) = true → ev (.tmp t) = a0.eval (.tmp t)) → (∀ v, ev (.const v) = v) →
      Gives P o ev w fun v w' => Below w.heap.size w w' ∧ (sp i).post v ((sp i).deps.map ρ) w.heap.size w'.heap.size w')
    (hend : ∀ (ρ : Nat → Value) (lo hi : Nat → Nat) w a, a = canon ops a0 ρ n → a.defers = a0.defers → (∀ j t, j < n → dst ops j = some t → t < N → a.eval (.tmp t) = ρ j) → (∀ t, ((List.range n).all fun j => dst ops j != some t) = true → a.eval (.tmp t) = a0.eval (.tmp t)) → Below w0.heap.size w0 w → (∀ i, i < n → w0.heap.size ≤ lo i ∧ lo i ≤ hi i ∧ hi i ≤ w.heap.size ∧ (sp i).post (ρ i) ((sp i).deps.map ρ) (lo i) (hi i) w) → (∀ i j, i < n → j < n → i ≠ j → hi i ≤ lo j ∨ hi j ≤ lo i) →
      wpAny P .any ops Q (ops.size - n) (heads ops.size n) a w) :
    wpAny P .any ops Q ops.size (Array.replicate ops.size false) a0 w0 := by
  have hs := fun i (hi : i < ops.size) => List.all_eq_true.1 hsh i (List.mem_range.2 hi)
  have hlt : ∀ {j t}, dst ops j = some t → j < ops.size := fun {j t} h => by
    rcases Nat.lt_or_ge j ops.size with h1 | h1
    · exact h1
    · unfold dst at h; rw [Array.getElem?_eq_none h1] at h; cases h
  have hone : ∀ i j t, i ≠ j → dst ops j = some t → dst ops i ≠ some t := fun i j t hij hj hi => by
    have h1 := hs j (hlt hj)
    dsimp only at h1
    cases ho : ops[j]? with
    | none => rw [ho] at h1; cases h1
    | some o =>
      have hd : o.dst = some t := by unfold dst at hj; rw [ho] at hj; exact hj
      rw [ho] at h1
      simp only [Bool.and_eq_true] at h1
      have h2 := h1.1
      rw [hd] at h2
      have h3 := List.all_eq_true.1 h2 i (List.mem_range.2 (hlt hi))
      simp only [Bool.or_eq_true, beq_iff_eq, bne_iff_ne] at h3
      rcases h3 with h3 | h3
      · exact hij h3
      · exact h3 hi
  have hop : ∀ i, i < n → ∃ o, ops[i]? = some o ∧ o.guard = none ∧ (∀ cs b, o.op ≠ .select cs b) ∧
      (∀ t, Operand.tmp t ∈ o.op.operands → ∀ j, j < ops.size → dst ops j = some t → j < i ∧ ∃ e ∈ o.after, Region.binds .any e = true ∧ e.on = j) ∧
      (∀ j ∈ (sp i).deps, j < i ∧ ∃ e ∈ o.after, Region.binds .any e = true ∧ e.on = j) ∧ (∀ e ∈ o.after, Region.binds .any e = true → e.on < i) := fun i hi => by
    have h1 := hs i (by omega)
    dsimp only at h1
    cases ho : ops[i]? with
    | none => rw [ho] at h1; cases h1
    | some o =>
      rw [ho] at h1
      simp only [Bool.and_eq_true, if_pos hi] at h1
      obtain ⟨_, ⟨⟨⟨g1, g2⟩, g4⟩, g5⟩, g6⟩ := h1
      refine ⟨o, rfl, by simpa using g1, (fun cs b hsel => by rw [hsel] at g2; cases g2), fun t ht j hj hd => ?_, fun j hj => ?_, fun e he hb => ?_⟩
      · have h2 := List.all_eq_true.1 g4 (.tmp t) (by simpa using ht)
        dsimp only at h2
        have h3 := List.all_eq_true.1 h2 j (List.mem_range.2 hj)
        simp only [Bool.or_eq_true, bne_iff_ne, Bool.and_eq_true, decide_eq_true_eq, List.any_eq_true, beq_iff_eq] at h3
        rcases h3 with h3 | ⟨h3, e, he, h4⟩
        · exact absurd hd h3
        · exact ⟨h3, e, by simpa using he, h4⟩
      · have h2 := List.all_eq_true.1 g5 j hj
        simp only [Bool.and_eq_true, decide_eq_true_eq, List.any_eq_true, beq_iff_eq] at h2
        obtain ⟨h3, e, he, h4⟩ := h2
        exact ⟨h3, e, by simpa using he, h4⟩
      · have h2 := Array.all_eq_true_iff_forall_mem.1 g6 e he
        rw [hb] at h2
        simpa using h2
  have hlate : ∀ i o, n ≤ i → ops[i]? = some o → ∀ j, j < n → ∃ e ∈ o.after, Region.binds .any e = true ∧ e.on = j := fun i o hi ho j hj => by
    have h1 := hs i (Array.getElem?_eq_some_iff.1 ho).1
    dsimp only at h1
    rw [ho] at h1
    simp only [Bool.and_eq_true, if_neg (Nat.not_lt.2 hi)] at h1
    have h2 := List.all_eq_true.1 h1.2 j (List.mem_range.2 hj)
    simp only [Bool.and_eq_true, List.any_eq_true, beq_iff_eq] at h2
    obtain ⟨e, he, h4⟩ := h2
    exact ⟨e, by simpa using he, h4⟩
  have fin : ∀ (listed : Array Bool), listed.size = ops.size → Region.ready .any ops listed = [] → ∀ i, i < n → listed.getD i false = true := by
    intro listed hl hr i
    induction i using Nat.strongRecOn with
    | _ i ih =>
      intro hi
      by_cases hb : listed.getD i false = true
      · exact hb
      · exfalso
        have hi' : i < listed.size := by omega
        have h0 : listed.getD i true = false := by
          simp [hi'] at hb ⊢
          exact hb
        obtain ⟨o, ho, _, _, _, _, hlow⟩ := hop i hi
        have hm : i ∈ Region.ready .any ops listed := by
          rw [mem_ready]
          refine ⟨h0, o, ho, fun e he hbd => ?_⟩
          have := hlow e he hbd
          exact ih e.on this (by omega)
        rw [hr] at hm
        cases hm
  have key : ∀ (fuel : Nat) (listed : Array Bool) (ρ : Nat → Value) (lo hi : Nat → Nat) (w : World), listed.size = ops.size → listed.toList.count false = fuel → Below w0.heap.size w0 w →
      (∀ i, n ≤ i → listed.getD i false = false) →
      (∀ i, i < n → listed.getD i false = true → w0.heap.size ≤ lo i ∧ lo i ≤ hi i ∧ hi i ≤ w.heap.size ∧ (sp i).post (ρ i) ((sp i).deps.map ρ) (lo i) (hi i) w ∧ ∀ j ∈ (sp i).deps, listed.getD j false = true) →
      (∀ i j, i < n → j < n → listed.getD i false = true → listed.getD j false = true → i ≠ j → hi i ≤ lo j ∨ hi j ≤ lo i) →
      wpAny P .any ops Q fuel listed (part ops a0 ρ (fun j => listed.getD j false) n) w := by
    have last : ∀ (listed : Array Bool) (ρ : Nat → Value) (lo hi : Nat → Nat) (w : World), listed.size = ops.size → Below w0.heap.size w0 w →
        (∀ i, n ≤ i → listed.getD i false = false) →
        (∀ i, i < n → listed.getD i false = true → w0.heap.size ≤ lo i ∧ lo i ≤ hi i ∧ hi i ≤ w.heap.size ∧ (sp i).post (ρ i) ((sp i).deps.map ρ) (lo i) (hi i) w ∧ ∀ j ∈ (sp i).deps, listed.getD j false = true) →
        (∀ i j, i < n → j < n → listed.getD i false = true → listed.getD j false = true → i ≠ j → hi i ≤ lo j ∨ hi j ≤ lo i) →
        (∀ i, i < n → listed.getD i false = true) → wpAny P .any ops Q (listed.toList.count false) listed (part ops a0 ρ (fun j => listed.getD j false) n) w := by
      intro listed ρ lo hi w hl hb hno hg hd hall
      have e : ∀ k, k ≤ n → part ops a0 ρ (fun j => listed.getD j false) k = canon ops a0 ρ k := by
        intro k
        induction k with
        | zero => exact fun _ => rfl
        | succ k ih =>
          intro hk
          unfold part canon
          rw [ih (by omega), hall k (by omega), if_pos rfl]
      have e2 : listed = heads ops.size n := by
        apply Array.ext
        · simp [heads, hl]; omega
        · intro i h1 h2
          by_cases hi : i < n
          · have := hall i hi
            simp [h1] at this
            rw [this]
            simp [heads, hi]
          · have := hno i (by omega)
            simp [h1] at this
            rw [this]
            simp [heads, List.getElem_append, hi]
      have e3 : (heads ops.size n).toList.count false = ops.size - n := by simp [heads, List.count_append, List.count_replicate]
      rw [e _ (Nat.le_refl _), e2, e3]
      exact hend ρ lo hi w _ rfl (canon_defers n) (fun j t hj hd ht => by
        rw [canon_part, part_at hd (fun i hi => hone i j t hi hd) rfl n hj, if_pos (by rw [hN]; exact ht)]) (fun t ht => by
        rw [canon_part, part_other n fun j hj _ => by
          have := List.all_eq_true.1 ht j (List.mem_range.2 hj)
          simpa using this]) hb (fun i hi => by
        obtain ⟨h1, h2, h3, h4, _⟩ := hg i hi (hall i hi)
        exact ⟨h1, h2, h3, h4⟩) fun i j hi hj => hd i j hi hj (hall i hi) (hall j hj)
    intro fuel
    induction fuel with
    | zero =>
      intro listed ρ lo hi w hl hc hb hno hg hd
      have hall : ∀ i, i < n → listed.getD i false = true := fun i hi => by
        have hm : ¬ false ∈ listed.toList := fun h => by
          have := List.count_pos_iff.2 h
          omega
        have hi' : i < listed.size := by omega
        by_cases hbi : listed[i] = true
        · simp [hi', hbi]
        · exfalso
          have e : listed[i] = false := by simpa using hbi
          exact hm (by rw [← e]; simp)
      have := last listed ρ lo hi w hl hb hno hg hd hall
      rw [hc] at this
      exact this
    | succ fuel ih =>
      intro listed ρ lo hi w hl hc hb hno hg hd
      by_cases hall : ∀ i, i < n → listed.getD i false = true
      · have := last listed ρ lo hi w hl hb hno hg hd hall
        rw [hc] at this
        exact this
      refine ⟨fun hr => absurd (fin listed hl hr) hall, fun i hi => ?_⟩
      have hi0 := hi
      rw [mem_ready] at hi
      obtain ⟨h0, o, ho, haft⟩ := hi
      have hin' := (Array.getElem?_eq_some_iff.1 ho).1
      have hin : i < n := by
        rcases Nat.lt_or_ge i n with h | h
        · exact h
        · exact absurd (fun j hj => by
            obtain ⟨e, he, hbd, rfl⟩ := hlate i o h ho j hj
            exact haft e he hbd) hall
      have hi' : i < listed.size := by omega
      obtain ⟨o', ho', hgd, hsel, hread, hdep, _⟩ := hop i hin
      rw [ho] at ho'
      cases ho'
      have hLi : listed.getD i false = false := by
        simp [hi'] at h0 ⊢
        exact h0
      have hdl : ∀ j ∈ (sp i).deps, listed.getD j false = true := fun j hj => by
        obtain ⟨_, e, he, hbd, rfl⟩ := hdep j hj
        exact haft e he hbd
      have hev : execOp (part ops a0 ρ (fun j => listed.getD j false) n).eval o = execOp (canon ops a0 ρ i).eval o := by
        refine execOp_congr o hsel fun x hx => ?_
        cases x with
        | tmp t =>
          refine part_canon (fun i j hij => hone i j t hij) (by omega) fun j hj hd => ?_
          obtain ⟨h1, e, he, hbd, rfl⟩ := hread t hx j (by omega) hd
          exact ⟨h1, haft e he hbd⟩
        | _ => rfl
      have hstp := hstep i o ρ w (canon ops a0 ρ i).eval hin ho hb (fun j hj => by
        have hjl := (hdep j hj).1
        obtain ⟨h1, h2, h3, h4, _⟩ := hg j (by omega) (hdl j hj)
        exact ⟨lo j, hi j, h1, h2, h3, h4⟩) (fun j t hj hd ht => by
        rw [canon_part, part_at hd (fun i hi => hone i j t hi hd) rfl i hj, if_pos (by rw [hN]; exact ht)]) (fun t ht => by
        rw [canon_part, part_other i fun j hj _ => by
          have := List.all_eq_true.1 ht j (List.mem_range.2 hj)
          simpa using this]) (fun v => rfl)
      unfold wpOp
      rw [ho]
      dsimp only
      have hw : Region.wanted o (yielded ops (part ops a0 ρ (fun j => listed.getD j false) n).tmps) = true := by
        unfold Region.wanted
        rw [hgd]
      rw [if_pos hw]
      refine .inl ?_
      have hstp' : Gives P o (part ops a0 ρ (fun j => listed.getD j false) n).eval w fun v w' => Below w.heap.size w w' ∧ (sp i).post v ((sp i).deps.map ρ) w.heap.size w'.heap.size w' := by
        unfold Gives at hstp ⊢
        rw [hev]
        exact hstp
      refine hstp'.wp fun v w' hv => ?_
      obtain ⟨hbw, hpost⟩ := hv
      have hdst : o.dst = dst ops i := by unfold dst; rw [ho]; rfl
      have hgetD : ∀ j, (listed.setIfInBounds i true).getD j false = if j = i then true else listed.getD j false := fun j => by
        by_cases e : j = i
        · subst e
          rw [if_pos rfl]
          simp [hi']
        · rw [if_neg e]
          exact getD_set_ne false (fun h => e h.symm)
      rw [hdst, part_set hone hLi hin, part_congr (L' := fun j => (listed.setIfInBounds i true).getD j false) (ρ' := upd ρ i v) (fun j => (hgetD j).symm) (fun _ _ => rfl)]
      have hsz := hbw.size
      have hb0 := hb.size
      have hupd : ∀ j, j ≠ i → listed.getD j false = true → (∀ k ∈ (sp j).deps, listed.getD k false = true) → (sp j).deps.map (upd ρ i v) = (sp j).deps.map ρ := fun j hj hjl hk => by
        refine List.map_congr_left fun k hkm => ?_
        unfold upd
        rw [if_neg]
        intro e
        subst e
        rw [hk k hkm] at hLi
        cases hLi
      have hdi : (sp i).deps.map (upd ρ i v) = (sp i).deps.map ρ := List.map_congr_left fun k hkm => by
        unfold upd
        rw [if_neg]
        intro e
        subst e
        rw [hdl k hkm] at hLi
        cases hLi
      refine ih (listed.setIfInBounds i true) (upd ρ i v) (updN lo i w.heap.size) (updN hi i w'.heap.size) w' (by simpa using hl) ?_ (hb.trans (hbw.mono hb0)) (fun j hj => by rw [hgetD, if_neg (by omega)]; exact hno j hj) ?_ ?_
      · rw [Array.toList_setIfInBounds]
        have hi2 : i < listed.toList.length := by simpa using hi'
        have e : listed.toList[i] = false := by
          simp [hi'] at h0
          simpa using h0
        have hpos : 0 < listed.toList.count false := List.count_pos_iff.2 (by rw [← e]; exact List.getElem_mem hi2)
        rw [List.count_set hi2, e, if_pos (by decide), if_neg (by decide)]
        omega
      · intro j hj hjl
        rw [hgetD] at hjl
        by_cases e : j = i
        · subst e
          unfold updN
          rw [if_pos rfl, if_pos rfl]
          refine ⟨hb0, hsz, Nat.le_refl _, ?_, fun k hk => by rw [hgetD]; split; rfl; exact hdl k hk⟩
          rw [hdi]
          unfold upd
          rw [if_pos rfl]
          exact hpost
        · rw [if_neg e] at hjl
          obtain ⟨h1, h2, h3, h4, h5⟩ := hg j hj hjl
          unfold updN
          rw [if_neg e, if_neg e]
          refine ⟨h1, h2, by omega, ?_, fun k hk => by rw [hgetD]; split; rfl; exact h5 k hk⟩
          rw [hupd j e hjl h5]
          unfold upd
          rw [if_neg e]
          exact hstab j hj _ _ _ _ w w' h3 hbw h4
      · intro j k hj hk hjl hkl hjk
        rw [hgetD] at hjl hkl
        unfold updN
        by_cases e : j = i
        · subst e
          rw [if_neg (fun h => hjk h.symm)] at hkl
          rw [if_pos rfl, if_pos rfl, if_neg (fun h => hjk h.symm), if_neg (fun h => hjk h.symm)]
          exact .inr (hg k hk hkl).2.2.1
        · rw [if_neg e] at hjl
          by_cases e2 : k = i
          · subst e2
            rw [if_neg e, if_neg e, if_pos rfl, if_pos rfl]
            exact .inl (hg j hj hjl).2.2.1
          · rw [if_neg e2] at hkl
            rw [if_neg e, if_neg e, if_neg e2, if_neg e2]
            exact hd j k hj hk hjl hkl hjk
  have hnone : ∀ j, (Array.replicate ops.size false).getD j false = false := fun j => by by_cases hk : j < ops.size <;> simp [hk]
  have h0 : part ops a0 (fun _ => undef) (fun j => (Array.replicate ops.size false).getD j false) n = a0 := by
    have : ∀ k, part ops a0 (fun _ => undef) (fun j => (Array.replicate ops.size false).getD j false) k = a0 := by
      intro k
      induction k with
      | zero => rfl
      | succ k ih =>
        unfold part
        rw [ih, hnone k, if_neg (by decide)]
    exact this _
  have hk := key ops.size (Array.replicate ops.size false) (fun _ => undef) (fun _ => 0) (fun _ => 0) w0 (by simp) (by simp) (Below.refl _ _) (fun i _ => hnone i) (fun i _ h => by rw [hnone i] at h; cases h) (fun i _ _ _ h => by rw [hnone i] at h; cases h)
  rw [h0] at hk
  exact hk

end AnyOrd
end Go.Proofs.YtalfpbalekbinaaGreat

/-
  Forests wherever they lie; the document's own Copy of one.
-/
namespace Go.Proofs.YtalfpbalekbinaaGreat
open Go.RowKit

/-- Where the four lists of a forest lie, and how much room they have. -/
structure For where
  a1 : Option Addr
  a2 : Option Addr
  a3 : Option Addr
  a4 : Option Addr
  c1 : Nat
  c2 : Nat
  c3 : Nat
  c4 : Nat

/-- A forest, handed in or answered. -/
abbrev For.val (f : For) (s : Df.St) : Value := .agg #[.slice f.a1 s.par.length f.c1, .slice f.a2 s.hei.length f.c2, .slice f.a3 s.ord.length f.c3, .slice f.a4 s.ori.length f.c4]

/-- The four lists lie there. -/
structure LstF (w : World) (f : For) (s : Df.St) : Prop where
  l1 : Lst w f.a1 s.par.length f.c1 s.par
  l2 : Lst w f.a2 s.hei.length f.c2 s.hei
  l3 : Lst w f.a3 s.ord.length f.c3 s.ord
  l4 : Lst w f.a4 s.ori.length f.c4 s.ori
  n1 : s.par.length ≤ 17592186043904
  n2 : s.hei.length ≤ 17592186043904
  n3 : s.ord.length ≤ 17592186043904
  n4 : s.ori.length ≤ 17592186043904

theorem LstF.later {w w' : World} {f : For} {s : Df.St} (h : LstF w f s) (hb : Below w.heap.size w w') : LstF w' f s := ⟨h.l1.later hb, h.l2.later hb, h.l3.later hb, h.l4.later hb, h.n1, h.n2, h.n3, h.n4⟩

theorem OwnZ.few {w : World} {B : Nat} {v : Value} {l : List Int} (h : OwnZ w B v l) : l.length ≤ maxLen := by
  rcases h.2 with ⟨_, h0⟩ | ⟨_, _, _, _, _, _, h1, h2, _⟩
  · omega
  · omega

/-- A forest of one's own is one that lies somewhere. -/
theorem OwnF.lst {w : World} {B : Nat} {v1 v2 v3 v4 : Value} {s : Df.St} (h : OwnF w B v1 v2 v3 v4 s) (hn : s.par.length ≤ 17592186043904 ∧ s.hei.length ≤ 17592186043904 ∧ s.ord.length ≤ 17592186043904 ∧ s.ori.length ≤ 17592186043904) :
    ∃ f : For, v1 = .slice f.a1 s.par.length f.c1 ∧ v2 = .slice f.a2 s.hei.length f.c2 ∧ v3 = .slice f.a3 s.ord.length f.c3 ∧ v4 = .slice f.a4 s.ori.length f.c4 ∧ LstF w f s := by
  obtain ⟨a1, c1, e1, h1, _⟩ := h.o1.lst
  obtain ⟨a2, c2, e2, h2, _⟩ := h.o2.lst
  obtain ⟨a3, c3, e3, h3, _⟩ := h.o3.lst
  obtain ⟨a4, c4, e4, h4, _⟩ := h.o4.lst
  exact ⟨⟨a1, a2, a3, a4, c1, c2, c3, c4⟩, e1, e2, e3, e4, h1, h2, h3, h4, hn.1, hn.2.1, hn.2.2.1, hn.2.2.2⟩

/-- 'append([]int{}, xs...)', run: the empty list lies in block b. -/
theorem run_copyI (ty : TypeId) (W : World) (b : Nat) (ao : Option Addr) (n ca : Nat) (l : List Int) (hb : W.heap[b]? = some (.cells #[] 3 (0, 0))) (hr : Lst W ao n ca l) (hn : n ≤ 17592186043904) :
    ∃ g c w', (Builtin.append_ #[26, 26] ty #[.slice (some ⟨b, 0, none⟩) 0 0, .slice ao n ca]).run Tryz.prog W = .ok (.slice (some ⟨g, 0, none⟩) n c) w' ∧ (g = b ∨ W.heap.size ≤ g) ∧ (∀ B, B ≤ b → OwnZ w' B (.slice (some ⟨g, 0, none⟩) n c) l) ∧ g < w'.heap.size ∧ Below W.heap.size W w' := by
  obtain ⟨i0, hi, hz0, hz1, hz2⟩ := info_parts Tryz.infoNum
  have hlt := lt_of_block hb
  have hown0 : ∀ B, B ≤ b → W.ownsRow B 3 1 (.slice (some ⟨b, 0, none⟩) 0 0) 0 [] := fun B hB => ⟨rfl, .inr ⟨b, 0, #[], rfl, hB, hb, Nat.le_refl _, by unfold maxLen; omega, rfl, rfl⟩⟩
  by_cases h0 : n = 0
  · subst h0
    have hl : l = [] := List.length_eq_zero_iff.1 hr.len
    subst hl
    refine ⟨b, 0, W, ?_, .inl rfl, fun B hB => hown0 B hB, hlt, Below.refl _ _⟩
    cases ao with
    | none =>
      obtain ⟨_, rfl⟩ := hr.none rfl
      exact run_append_owned_none (P := Tryz.prog) (w := W) b 26 ty 3 i0 1 Tryz.underlying26 hi _ 0 [] (hown0 b (Nat.le_refl _))
    | some y =>
      have := run_append_room_cells (P := Tryz.prog) W 26 ty 3 i0 Tryz.underlying26 hi b 0 0 0 y 0 ca [] (by simp) (fun j u hj => by simp at hj) (fun u hu => by simp at hu) (Nat.le_refl _) (fun j hj => by simp at hj) (fun j hj => by simp at hj)
      rw [this]
      simp [World.setCells]
  · obtain ⟨y, hy⟩ : ∃ y, ao = some y := by
      cases ao with
      | none => exact absurd (hr.none rfl).1 h0
      | some y => exact ⟨y, rfl⟩
    subst hy
    obtain ⟨v', w', hrun, r1, r2⟩ := run_append_arg_grows (P := Tryz.prog) W 26 ty 3 i0 (.int .i64 0) 1 8 Tryz.underlying26 hi hz0 hz1 hz2 rfl (by decide) ⟨b, 0, none⟩ 0 0 [] rfl (fun j u hj => by simp at hj) y n ca (l.map (Value.int .i64)) (by rw [List.length_map, hr.len]; omega) (fun j u hj => by
      rw [List.getElem?_map] at hj
      cases hlj : l[j]? with
      | none => rw [hlj] at hj; cases hj
      | some z =>
        rw [hlj] at hj
        obtain rfl := Option.some.inj hj
        obtain ⟨b', o', e, hc⟩ := hr.ints j z hlj
        cases e
        have ea : ((⟨b', o', none⟩ : Addr).add j) = ⟨b', o' + j, none⟩ := by
          by_cases h0 : j = 0 <;> simp [Addr.add, h0]
        rw [ea]
        exact hc) (by omega) (by unfold maxLen; omega) (by omega)
    rw [Nat.zero_add, List.nil_append] at r1
    obtain ⟨k, hk⟩ : ∃ k, n = k + 1 := ⟨n - 1, by omega⟩
    rw [hk] at r1
    obtain ⟨g, c, rfl⟩ := own_succ r1
    rw [← hk] at r1 hrun
    have hg := World.ownsRow.lt r1 g rfl
    refine ⟨g, c, w', hrun, .inr hg.1, fun B hB => ?_, hg.2, ⟨r2.os, r2.tape, r2.output, r2.size, fun k hk => r2.block k hk (by simp)⟩⟩
    have : OwnZ w' W.heap.size (.slice (some ⟨g, 0, none⟩) n c) l := by
      unfold OwnZ
      rw [hr.len]
      exact r1
    exact this.lower (by omega)

end Go.Proofs.YtalfpbalekbinaaGreat

/-
  What an Adj answers: First, After.
-/
namespace Go.Proofs.YtalfpbalekbinaaGreat
open Go.RowKit

/-- What First answers. -/
def Cs.firstI (n : Nat) (es : List (Int × Int)) (x : Int) : Int := (Cs.outZ n es x).getD 0 (-1)

set_option maxRecDepth 100000 in
set_option maxHeartbeats 4000000 in
theorem first_any (v : Value) (n : Nat) (es : List (Int × Int)) (x : Int) (w : World) (h : IsAdj w v n es) : Calls Tryz.prog 57 #[v, .int .i64 x] w fun e w' => e = .returned (.int .i64 (Cs.firstI n es x)) ∧ ∃ k, w' = w.drewN k := by
  have HL := Nu.hid (leaving_any v n es x w w h (Below.refl _ _))
  clear h
  unfold Cs.firstI
  cases hL : Cs.outZ n es x with
  | nil =>
    have HL2 : Hid (Calls Tryz.prog 80 #[v, .int .i64 x] w fun e w' => ∃ ao cap, e = .returned (.slice ao 0 cap) ∧ ∃ k, w' = w.drewN k) := HL.out.mono (by
      rintro e w' ⟨ao, cap, h1, _, h3⟩
      rw [hL] at h1
      exact ⟨ao, cap, h1, h3⟩)
    clear HL hL
    go_enter Tryz.func57, Tryz.ntmps57
    go_wp2_with (go_at_call 80; refine HL2.out.mono ?_; rintro e w1 ⟨ao, cap, rfl, k, rfl⟩)
    go_ret
    exact ⟨rfl, k, rfl⟩
  | cons z L =>
    have HL2 : Hid (Calls Tryz.prog 80 #[v, .int .i64 x] w fun e w' => ∃ b o cap k, e = .returned (.slice (some ⟨b, o, none⟩) (L.length + 1) cap) ∧ w.cell? ⟨b, o, none⟩ = some (.int .i64 z) ∧ w' = w.drewN k) := HL.out.mono (by
      rintro e w' ⟨ao, cap, h1, h2, k, h3⟩
      rw [hL] at h1 h2
      obtain ⟨b, o, rfl, h4⟩ := h2 0 z rfl
      exact ⟨b, o, cap, k, h1, h4, h3⟩)
    have hne : ((L.length : Int) + 1 == 0) = false := by simp; omega
    clear HL hL
    go_enter Tryz.func57, Tryz.ntmps57
    go_wp2_with (go_at_call 80; refine HL2.out.mono ?_; rintro e w1 ⟨b, o, cap, k, rfl, hc, rfl⟩)
    go_ret
    exact ⟨rfl, k, rfl⟩

/-- What After answers. -/
def Cs.afterI (n : Nat) (es : List (Int × Int)) (x : Int) : Int :=
  if 0 ≤ x ∧ x < 2 * (es.length : Int) then (Cs.outZ n es (Cs.fr es x.toNat)).getD ((Cs.out es (Cs.fr es x.toNat) x.toNat).length + 1) (-1) else -1

theorem Cs.afterI_no {n : Nat} {es : List (Int × Int)} {x : Int} (h : ¬ (0 ≤ x ∧ x < 2 * (es.length : Int))) : Cs.afterI n es x = -1 := by unfold Cs.afterI; rw [if_neg h]

set_option maxRecDepth 100000 in
set_option maxHeartbeats 4000000 in
theorem after_any (v : Value) (n : Nat) (es : List (Int × Int)) (x : Int) (w : World) (h : IsAdj w v n es) : Calls Tryz.prog 72 #[v, .int .i64 x] w fun e w' => e = .returned (.int .i64 (Cs.afterI n es x)) ∧ ∃ k, w' = w.drewN k := by
  have HV := Nu.hid (hasHalf_any v n es x w h)
  have HF := Nu.hid (from_any v n es x w h)
  by_cases hx : 0 ≤ x ∧ x < 2 * (es.length : Int)
  · rw [decide_eq_true hx] at HV
    rcases h with ⟨rfl, rfl, rfl⟩ | ⟨B, p, rfl, hv, gd, gs, gh, gp, gt, h⟩
    · simp at hx; omega
    · obtain ⟨i, rfl⟩ : ∃ u : Nat, x = (u : Int) := ⟨x.toNat, by omega⟩
      have hi : i < 2 * es.length := by omega
      have hlt : ∀ i, i < 2 * es.length → Cs.fr es i < n := fun i hi => (Cs.half_lt hv hi).1
      have hul := hlt i hi
      rw [Cs.frI_in hi] at HF
      have ea : Cs.afterI n es i = (Cs.outZ n es (Cs.fr es i)).getD ((Cs.out es (Cs.fr es i) i).length + 1) (-1) := by
        unfold Cs.afterI
        rw [if_pos hx, Int.toNat_natCast]
      rw [ea]
      have hle := Cs.st_le hlt hul
      have hol := Cs.out_lt (es := es) (k := 2 * es.length) hi rfl
      have hfew := hv.few
      have c0 := h.blk.c0
      have c1 := h.blk.c1
      have c2 := h.blk.c2
      have c3 := h.blk.c3
      have d0 := h.deg _ hul
      have d1 := h.start _ hul
      have d3 := h.place i hi
      have hhalf := h.half
      have hpos : Cs.pos es (2 * es.length) i = Cs.st es (2 * es.length) (Cs.fr es i) + (Cs.out es (Cs.fr es i) i).length := rfl
      rw [hpos] at d3
      obtain ⟨j, hj⟩ : ∃ j, (Cs.out es (Cs.fr es i) i).length = j := ⟨_, rfl⟩
      rw [hj] at d3 hol ⊢
      have hnx : ∀ (q : Nat), (Cs.out es (Cs.fr es i) (2 * es.length))[j + 1]? = some q → w.cell? ⟨gh, Cs.st es (2 * es.length) (Cs.fr es i) + (j + 1), none⟩ = some (.int .i64 (q : Int)) := fun q hq => by
        obtain ⟨h1, h2, h3⟩ := Cs.out_of hq
        have := hhalf q h1
        unfold Cs.pos at this
        rw [h2, h3] at this
        exact this
      unfold Cs.outZ
      rw [List.getD_eq_getElem?_getD, List.getElem?_map, Cs.outI_in hul]
      obtain ⟨f, hf⟩ : ∃ f, Cs.fr es i = f := ⟨_, rfl⟩
      rw [hf] at HF hle hol d0 d1 d3 hnx hul ⊢
      obtain ⟨O, hO⟩ : ∃ O, Cs.out es f (2 * es.length) = O := ⟨_, rfl⟩
      rw [hO] at hle hol d0 hnx ⊢
      obtain ⟨s, hs⟩ : ∃ s, Cs.st es (2 * es.length) f = s := ⟨_, rfl⟩
      rw [hs] at hle d1 d3 hnx
      have z0 : (0 : Int) ≤ (i : Int) := by omega
      have z1 : (i : Int) < 2 * (es.length : Int) := by omega
      have z2 : (0 : Int) ≤ (f : Int) := by omega
      have z3 : (f : Int) < (n : Int) := by omega
      clear h hv hlt hhalf hf hO hs hj ea hpos hx
      by_cases hlast : j + 1 = O.length
      · have hge : O[j + 1]? = none := List.getElem?_eq_none (by omega)
        rw [hge]
        have he : ((s : Int) + (j : Int) + 1 == (s : Int) + (O.length : Int)) = true := by simp; omega
        clear hnx hge
        go_enter Tryz.func72, Tryz.ntmps72
        go_wp2_with (first | (go_at_call 64; refine HV.out.mono ?_; rintro e w1 ⟨rfl, rfl⟩) | (go_at_call 45; refine HF.out.mono ?_; rintro e w1 ⟨rfl, rfl⟩))
        go_quiet (fail)
        go_wp2
        go_ret
        exact ⟨rfl, _, rfl⟩
      · obtain ⟨q, hq⟩ : ∃ q, O[j + 1]? = some q := ⟨_, List.getElem?_eq_getElem (by omega)⟩
        have hc := hnx q hq
        rw [hq]
        have he : ((s : Int) + (j : Int) + 1 == (s : Int) + (O.length : Int)) = false := by simp; omega
        have z4 : (0 : Int) ≤ (s : Int) + (j : Int) + 1 := by omega
        have z5 : (s : Int) + (j : Int) + 1 < 2 * (es.length : Int) := by omega
        have z6 : ((s : Int) + (j : Int) + 1).toNat = s + (j + 1) := by omega
        clear hnx hq
        go_enter Tryz.func72, Tryz.ntmps72
        go_wp2_with (first | (go_at_call 64; refine HV.out.mono ?_; rintro e w1 ⟨rfl, rfl⟩) | (go_at_call 45; refine HF.out.mono ?_; rintro e w1 ⟨rfl, rfl⟩))
        go_quiet (fail)
        go_wp2
        go_ret
        exact ⟨rfl, _, rfl⟩
  · rw [decide_eq_false hx] at HV
    rw [Cs.afterI_no hx]
    clear h hx HF
    go_enter Tryz.func72, Tryz.ntmps72
    go_wp2_with (go_at_call 64; refine HV.out.mono ?_; rintro e w1 ⟨rfl, rfl⟩)
    go_ret
    exact ⟨rfl, 0, rfl⟩

end Go.Proofs.YtalfpbalekbinaaGreat

/-
  A forest held against a graph: numbers of its lists; answers of yes or no.
-/
namespace Go.Proofs.YtalfpbalekbinaaGreat
open Go.RowKit

theorem bel_a {w V : World} (h : Below w.heap.size w V) (o : Obj) : Below w.heap.size w (V.alloc o) := h.alloc h.size o
theorem bel_d {w V : World} (h : Below w.heap.size w V) : Below w.heap.size w V.drew := h.drew

/-- A number of one of the lists. -/
theorem lst_at {w : World} {ao : Option Addr} {k ca : Nat} {l : List Int} (h : Lst w ao k ca l) {i : Nat} (hi : i < k) : ∃ b o, ao = some ⟨b, o, none⟩ ∧ w.cell? ⟨b, o + i, none⟩ = some (.int .i64 (l.getD i (-1))) := h.ints i _ (getD_of (-1) (by rw [h.len]; exact hi))

/-- An answer of yes or no. -/
def BoolPost (P : Prop) (w : World) (e : Ending) (w' : World) : Prop := ∃ b, e = .returned (.bool b) ∧ (b = true ↔ P) ∧ Below w.heap.size w w'

end Go.Proofs.YtalfpbalekbinaaGreat
