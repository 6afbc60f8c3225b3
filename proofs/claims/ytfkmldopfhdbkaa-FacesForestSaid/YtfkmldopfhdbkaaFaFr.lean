/-
  A forest: edges and components make up the vertices.
-/
import Derived.Test.YtfkmldopfhdbkaaMg16
namespace Go.Proofs.Ytfkmldopfhdbkaa

namespace Fa
open Co

/-- By vertex below k the edge to its parent, if that is less. -/
def frs (l : List Int) : Nat → List (Int × Int)
  | 0 => []
  | v + 1 => if 0 ≤ l.getD v 0 ∧ l.getD v 0 < (v : Int) then frs l v ++ [(l.getD v 0, (v : Int))] else frs l v

theorem frs_mem (l : List Int) : ∀ (k : Nat) (p : Int × Int), p ∈ frs l k → 0 ≤ p.1 ∧ p.1 < p.2 ∧ p.2 < (k : Int)
  | 0, _, h => by cases h
  | v + 1, p, h => by
    unfold frs at h
    split at h
    · rename_i hc
      rcases List.mem_append.1 h with h | h
      · have := frs_mem l v p h
        omega
      · obtain rfl := List.mem_singleton.1 h
        dsimp only
        omega
    · have := frs_mem l v p h
      omega

theorem frs_len (l : List Int) : ∀ k, (frs l k).length ≤ k
  | 0 => Nat.le_refl _
  | v + 1 => by
    have := frs_len l v
    unfold frs
    split
    · simp; omega
    · omega

theorem frs_nodup (l : List Int) : ∀ k, (frs l k).Nodup
  | 0 => List.nodup_nil
  | v + 1 => by
    have ih := frs_nodup l v
    unfold frs
    split
    · rw [List.nodup_append]
      refine ⟨ih, by simp, fun a ha b hb e => ?_⟩
      have := frs_mem l v a ha
      obtain rfl := List.mem_singleton.1 hb
      subst e
      dsimp only at this
      omega
    · exact ih

theorem frs_alone (l : List Int) (N : Nat) : ∀ k, k ≤ N → ∀ x, k ≤ x → joins N (frs l k) (fun x => x) x = x
  | 0, _, _, _ => rfl
  | v + 1, hk, x, hx => by
    have ih := frs_alone l N v (by omega) x (by omega)
    unfold frs
    split
    · rename_i hc
      rw [joins_snoc]
      unfold joinI
      split
      · rename_i ha
        have hn := (gen_joins N (frs l v)).norm
        have h1 := hn.le (l.getD v 0).toNat (by omega)
        have h2 := hn.le v (by omega)
        unfold join
        simp only [Int.toNat_natCast]
        rw [ih, if_neg (by omega)]
      · exact ih
    · exact ih

theorem frs_cnt (l : List Int) (N : Nat) : ∀ k, k ≤ N → cnt N (joins N (frs l k) (fun x => x)) + (frs l k).length = N
  | 0, _ => by
    have := cnt_id N
    simpa [frs, joins] using this
  | v + 1, hk => by
    have ih := frs_cnt l N v (by omega)
    unfold frs
    split
    · rename_i hc
      have hn := (gen_joins N (frs l v)).norm
      have h1 := hn.le (l.getD v 0).toNat (by omega)
      have h2 := frs_alone l N v (by omega) v (Nat.le_refl _)
      have hne : joins N (frs l v) (fun x => x) (l.getD v 0).toNat ≠ joins N (frs l v) (fun x => x) v := by omega
      have hj := cnt_join hn (a := (l.getD v 0).toNat) (b := v) (by omega) (by omega) hne
      rw [joins_snoc]
      have ha : apart N (joins N (frs l v) (fun x => x)) (l.getD v 0) (v : Int) = true := apart_iff.2 ⟨by unfold isIn; omega, by unfold isIn; omega, by simpa using hne⟩
      unfold joinI
      dsimp only
      rw [if_pos ha]
      simp only [Int.toNat_natCast, List.length_append, List.length_cons, List.length_nil]
      omega
    · exact ih

/-- The forest's graph. -/
def frE (l : List Int) : List (Int × Int) := Si.made [] (frs l l.length)

theorem frE_mem (l : List Int) (e : Int × Int) : e ∈ frE l ↔ e ∈ frs l l.length := by
  rw [show (e ∈ frE l ↔ _) from (Si.made_made (frs l l.length)).2 e]
  constructor
  · rintro ⟨p, hp, _, rfl⟩
    have := frs_mem l _ p hp
    have e1 : Si.norm p = p := by
      unfold Si.norm
      rw [Int.min_eq_left (by omega), Int.max_eq_right (by omega)]
    rw [e1]
    exact hp
  · intro h
    have := frs_mem l _ e h
    refine ⟨e, h, by omega, ?_⟩
    unfold Si.norm
    rw [Int.min_eq_left (by omega), Int.max_eq_right (by omega)]

theorem frE_len (l : List Int) : (frE l).length = (frs l l.length).length :=
  Si.nodup_length (Si.sorted_nodup (Si.made_made _).1) (frs_nodup l _) (frE_mem l)

theorem frE_cnt (l : List Int) : cnt l.length (cp l.length (frE l)) + (frE l).length = l.length := by
  have h := frs_cnt l l.length l.length (Nat.le_refl _)
  rw [frE_len]
  have e : cnt l.length (cp l.length (frE l)) = cnt l.length (joins l.length (frs l l.length) (fun x => x)) := by
    have g1 := gen_joins l.length (frE l)
    have g2 := gen_joins l.length (frs l l.length)
    refine cntTo_congr _ fun i hi => ?_
    have := g1.unique g2 (fun j hj h1 h2 => g2.meets j ((frE_mem l j).1 hj) h1 h2) (fun j hj h1 h2 => g1.meets j ((frE_mem l j).2 hj) h1 h2) hi
    show decide (joins l.length (frE l) _ i = i) = _
    rw [this]
  rw [e]
  exact h

theorem frE_val {l : List Int} (hl : l.length ≤ 2000) : Si.Val l.length (frE l) := by
  have h1 := frE_len l
  have h2 := frs_len l l.length
  refine ⟨by omega, by omega, by omega, fun j p hj => ?_, fun j p q hp hq => ?_⟩
  · have := frs_mem l _ p ((frE_mem l p).1 (List.mem_of_getElem? hj))
    exact this
  · have hs : (frE l).Pairwise Si.lt := (Si.made_made _).1
    obtain ⟨hj, rfl⟩ := List.getElem?_eq_some_iff.1 hp
    obtain ⟨hj2, rfl⟩ := List.getElem?_eq_some_iff.1 hq
    exact List.pairwise_iff_getElem.1 hs _ _ hj hj2 (by omega)

/-- Any rotation of a forest is flat, with a face for each component that has an edge. -/
theorem frE_flat {l : List Int} {ls : List (List Int)} (h : Ro.Rot l.length (frE l) ls) : gz l.length (frE l) ls = 0 ∧ (all (frE l) ls).length + lonely l.length (frE l) = cnt l.length (cp l.length (frE l)) := by
  obtain ⟨_, g, h1, h2, h3⟩ := genus_eq h
  have := frE_cnt l
  omega
end Fa
end Go.Proofs.Ytfkmldopfhdbkaa
