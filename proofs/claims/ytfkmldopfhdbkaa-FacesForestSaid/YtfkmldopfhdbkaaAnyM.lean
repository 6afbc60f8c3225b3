/-
  What lies in memory in a drawn region whose operations that write come up in one order.
-/
import Derived.Test.YtfkmldopfhdbkaaAnyP
namespace Go.Proofs.Ytfkmldopfhdbkaa
open Go.RowKit

namespace AnyM
/-- The worlds behind the operations that write, the last of them first. -/
def memC (A : World) : List (Nat × World) → (Nat → Bool) → World → Prop
  | [], _, V => V = A
  | (k, w) :: r, L, V => if L k = true then V = w else memC A r L V
theorem other {A : World} {i : Nat} : ∀ {r : List (Nat × World)} {L : Nat → Bool} {V : World}, (r.all fun q => q.1 != i) = true → memC A r L V → memC A r (AnyOrd.updB L i) V
  | [], _, _, _, h => h
  | (k, w) :: r, L, V, hk, h => by
    rw [List.all_cons, Bool.and_eq_true] at hk
    have e1 : AnyOrd.updB L i k = L k := if_neg (fun e => by simp [e] at hk)
    unfold memC at h ⊢
    rw [e1]
    split
    · rename_i hl
      rw [if_pos hl] at h
      exact h
    · rename_i hl
      rw [if_neg hl] at h
      exact other hk.2 h
theorem gives_exact {P : Program} {o : Oper} {ev : Operand → Value} {R : Value → World → Prop} {f : FuncId} {args : Array Value} {v : Value} {V V' : World} (h : (execOp ev o).run P V = .ok (.enter f args) V) (hc : Calls P f args V fun e w' => e = .returned v ∧ w' = V') (hR : R v V') : AnyOrd.Gives P o ev V R := by
  unfold AnyOrd.Gives
  rw [h]
  exact hc.mono fun e w' ⟨h1, h2⟩ => ⟨v, h1, by rw [h2]; exact hR⟩
/-- The same, of what is known of the worlds. -/
def memQ (A : World → Prop) : List (Nat × (World → Prop)) → (Nat → Bool) → World → Prop
  | [], _, V => A V
  | (k, Q) :: r, L, V => if L k = true then Q V else memQ A r L V
theorem otherQ {A : World → Prop} {i : Nat} : ∀ {r : List (Nat × (World → Prop))} {L : Nat → Bool} {V : World}, (r.all fun q => q.1 != i) = true → memQ A r L V → memQ A r (AnyOrd.updB L i) V
  | [], _, _, _, h => h
  | (k, w) :: r, L, V, hk, h => by
    rw [List.all_cons, Bool.and_eq_true] at hk
    have e1 : AnyOrd.updB L i k = L k := if_neg (fun e => by simp [e] at hk)
    unfold memQ at h ⊢
    rw [e1]
    split
    · rename_i hl
      rw [if_pos hl] at h
      exact h
    · rename_i hl
      rw [if_neg hl] at h
      exact otherQ hk.2 h
theorem gives_post {P : Program} {o : Oper} {ev : Operand → Value} {R : Value → World → Prop} {f : FuncId} {args : Array Value} {v : Value} {V : World} {S : World → Prop} (h : (execOp ev o).run P V = .ok (.enter f args) V) (hc : Calls P f args V fun e w' => e = .returned v ∧ S w') (hR : ∀ w', S w' → R v w') : AnyOrd.Gives P o ev V R := by
  unfold AnyOrd.Gives
  rw [h]
  exact hc.mono fun e w' ⟨h1, h2⟩ => ⟨v, h1, hR w' h2⟩
end AnyM
end Go.Proofs.Ytfkmldopfhdbkaa
