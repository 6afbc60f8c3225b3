/-
  What the two answers come to, as one thing: the numbers, the fault, the pairs.
-/
import Derived.Test.YtmcbinooihkjhaaPaFixed
import Derived.Test.YtmcbinooihkjhaaPaSame
namespace Go.Proofs.Ytmcbinooihkjhaa
open Go.RowKit

/-- r as an answer: the number n, the fault x, the pairs ps. -/
def Outs (r : Except (Int × Int) Pa.St) (n : Int) (x : Int × Int) (ps : List (Int × Int)) : Prop :=
  (r = .error x ∧ n = 0 ∧ ps = []) ∨ ∃ s, r = .ok s ∧ n = s.n ∧ x = (0, 0) ∧ ps = s.pairs

theorem pairs_nil (w : World) : PairsAt w (.slice none 0 0) [] := ⟨none, 0, rfl, fun j p h => by simp at h⟩
theorem ints_nil (w : World) : IntsAt w (.slice none 0 0) [] := ⟨none, 0, rfl, fun j p h => by simp at h⟩

theorem RawPost.outs {r : Except (Int × Int) Pa.St} {w w' : World} {e : Ending} (h : RawPost r w e w') : Below w.heap.size w w' ∧ ∃ n v x ps, e = .returned (.tuple #[rawVal n v, rejVal x]) ∧ Outs r n x ps ∧ OwnPairs w' w.heap.size v ps := by
  obtain ⟨hb, ⟨x, hr, he⟩ | ⟨s, v, hr, he, hop⟩⟩ := h
  · exact ⟨hb, 0, .slice none 0 0, x, [], he, .inl ⟨hr, rfl, rfl⟩, World.ownsRow_nil _ _ _ _⟩
  · exact ⟨hb, s.n, v, (0, 0), s.pairs, he, .inr ⟨s, hr, rfl, rfl, rfl⟩, hop⟩

theorem ToldPost.outs {r : Except (Int × Int) Pa.St} {w w' : World} {e : Ending} {n : Int} {x : Int × Int} {ps : List (Int × Int)} (h : ToldPost r w e w') (ho : Outs r n x ps) : Below w.heap.size w w' ∧ ∃ U V, e = .returned (toldVal n U V x.1 x.2) ∧ OwnInts w' w.heap.size U (ps.map Prod.fst) ∧ OwnInts w' w.heap.size V (ps.map Prod.snd) := by
  obtain ⟨hb, ⟨y, hr, he⟩ | ⟨s, U, V, hr, he, hu, hv⟩⟩ := h
  · rcases ho with ⟨hr', rfl, rfl⟩ | ⟨s, hr', _⟩
    · rw [hr] at hr'
      cases hr'
      exact ⟨hb, _, _, he, World.ownsRow_nil _ _ _ _, World.ownsRow_nil _ _ _ _⟩
    · rw [hr] at hr'; cases hr'
  · rcases ho with ⟨hr', _⟩ | ⟨s', hr', rfl, rfl, rfl⟩
    · rw [hr] at hr'; cases hr'
    · rw [hr] at hr'
      cases hr'
      exact ⟨hb, U, V, he, hu, hv⟩

/-- How many pairs there are. -/
theorem Pa.go_pairs {s s' : Pa.St} {ls : List (List Nu.Tok)} {n : Int} (h : Pa.go s ls n = .ok s') : s'.pairs.length ≤ s.pairs.length + ls.length := by
  induction ls generalizing s with
  | nil => rw [Pa.fin_ok h]; simp
  | cons l ls ih =>
    cases hl : Pa.line s l with
    | error y => rw [Pa.go_error hl] at h; cases h
    | ok s1 =>
      rw [Pa.go_ok hl] at h
      have := ih h
      have := Pa.line_grows hl
      simp
      omega

theorem Outs.few {g : Nat → Int} {k : Nat} {n : Int} {x : Int × Int} {ps : List (Int × Int)} (h : Outs (Pa.raw g k) n x ps) : ps.length ≤ 16777217 := by
  rcases h with ⟨_, _, rfl⟩ | ⟨s, hr, _, _, rfl⟩
  · simp
  · unfold Pa.raw at hr
    split at hr
    · cases hr
    · split at hr
      · cases hr
      · rename_i ts hs
        have h1 := Pa.go_pairs hr
        have h2 := Pa.lns_length [] ts
        have h3 := Nu.scan_length hs
        simp [Pa.s0] at h1
        omega

theorem Outs.ok {g : Nat → Int} {k : Nat} {n : Int} {x : Int × Int} {ps : List (Int × Int)} (h : Outs (Pa.raw g k) n x ps) : Pa.okB (Pa.raw g k) = (x.1 == 0) := by
  rcases h with ⟨hr, _, rfl⟩ | ⟨s, hr, _, rfl, rfl⟩
  · have := Pa.raw_code hr
    rw [hr]
    simp [Pa.okB]
    omega
  · rw [hr]
    rfl

end Go.Proofs.Ytmcbinooihkjhaa
