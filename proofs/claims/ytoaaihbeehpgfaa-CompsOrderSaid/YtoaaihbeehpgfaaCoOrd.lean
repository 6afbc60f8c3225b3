/-
  Joins in any order make the same sets.
-/
import Derived.Test.YtoaaihbeehpgfaaCoA
namespace Go.Proofs.Ytoaaihbeehpgfaa
namespace Co

/-- m joins nothing but what the pairs ask. -/
def Sub (n : Nat) (js : List (Int × Int)) (m : Nat → Nat) : Prop := ∀ f : Nat → Nat, Meets n js f → ∀ x, x < n → f (m x) = f x

theorem Sub.id (n : Nat) (js : List (Int × Int)) : Sub n js (fun x => x) := fun _ _ _ _ => rfl

theorem Sub.joinI {n : Nat} {js : List (Int × Int)} {m : Nat → Nat} (hn : Norm n m) (h : Sub n js m) {a b : Int} (hab : ∀ f : Nat → Nat, Meets n js f → isIn n a → isIn n b → f a.toNat = f b.toNat) : Sub n js (Co.joinI n m a b) := by
  intro f hf x hx
  unfold Co.joinI
  split
  · rename_i e
    obtain ⟨h1, h2, h3⟩ := apart_iff.1 e
    have ha := isIn_lt h1
    have hb := isIn_lt h2
    have hj := hab f hf h1 h2
    have ea := h f hf _ ha
    have eb := h f hf _ hb
    have ex := h f hf x hx
    obtain ⟨lo, hi, _, _, _, _, hc, hjj⟩ := join_cases hn ha hb h3
    rw [hjj]
    split
    · rename_i e
      rcases hc with ⟨e1, e2⟩ | ⟨e1, e2⟩
      · rw [e1, ea, hj, ← eb, ← e2, ← e, ex]
      · rw [e1, eb, ← hj, ← ea, ← e2, ← e, ex]
    · exact ex
  · exact h f hf x hx

theorem joinI_mono {n : Nat} {m : Nat → Nat} (hn : Norm n m) (a b : Int) {x y : Nat} (hx : x < n) (hy : y < n) (h : m x = m y) : Co.joinI n m a b x = Co.joinI n m a b y := by
  unfold Co.joinI
  split
  · rename_i e
    obtain ⟨h1, h2, h3⟩ := apart_iff.1 e
    exact (join_same hn (isIn_lt h1) (isIn_lt h2) h3 hx hy).2 (.inl h)
  · exact h

theorem joinI_meets {n : Nat} {m : Nat → Nat} (hn : Norm n m) {a b : Int} (ha : isIn n a) (hb : isIn n b) : Co.joinI n m a b a.toNat = Co.joinI n m a b b.toNat := by
  by_cases e : m a.toNat = m b.toNat
  · exact joinI_mono hn a b (isIn_lt ha) (isIn_lt hb) e
  · unfold Co.joinI
    rw [apart_iff.2 ⟨ha, hb, e⟩]
    exact (join_same hn (isIn_lt ha) (isIn_lt hb) e (isIn_lt ha) (isIn_lt hb)).2 (.inr ⟨.inl rfl, .inr rfl⟩)

theorem Meets.joinI {n : Nat} {ks : List (Int × Int)} {m : Nat → Nat} (hn : Norm n m) (h : Meets n ks m) (a b : Int) : Meets n ks (Co.joinI n m a b) := fun j hj h1 h2 => joinI_mono hn a b (isIn_lt h1) (isIn_lt h2) (h j hj h1 h2)

theorem Meets.more {n : Nat} {ks : List (Int × Int)} {m : Nat → Nat} (hn : Norm n m) (h : Meets n ks m) (j : Int × Int) : Meets n (j :: ks) (Co.joinI n m j.1 j.2) := fun k hk h1 h2 => by
  rcases List.mem_cons.1 hk with rfl | hk
  · exact joinI_meets hn h1 h2
  · exact Meets.joinI hn h j.1 j.2 k hk h1 h2

theorem apart_done {n : Nat} {js : List (Int × Int)} {m : Nat → Nat} (h : Meets n js m) {j : Int × Int} (hj : j ∈ js) : apart n m j.1 j.2 = false := by
  unfold apart
  exact decide_eq_false fun e => e.2.2 (h j hj e.1 e.2.1)

theorem joinI_done {n : Nat} {m : Nat → Nat} {a b : Int} (h : apart n m a b = false) : Co.joinI n m a b = m := by unfold Co.joinI; rw [h]; rfl

theorem cnt_joinI {n : Nat} {m : Nat → Nat} (hn : Norm n m) (a b : Int) : cnt n (Co.joinI n m a b) + (if apart n m a b then 1 else 0) = cnt n m := by
  unfold Co.joinI
  by_cases e : apart n m a b = true
  · obtain ⟨h1, h2, h3⟩ := apart_iff.1 e
    rw [if_pos e, if_pos e]
    exact cnt_join hn (isIn_lt h1) (isIn_lt h2) h3
  · rw [if_neg e, if_neg e]
    rfl
end Co
end Go.Proofs.Ytoaaihbeehpgfaa
