/-
  Graphs out of graphs, pure: parts that stand side by side.
-/
import Derived.Test.YtdkckdbpbdhoaaaMgA
namespace Go.Proofs.Ytdkckdbpbdhoaaa

/-- k, k + 1, .., as many as m. -/
def Ed.fr (k m : Nat) : List Int := (List.range m).map fun i : Nat => ((k + i : Nat) : Int)
theorem Ed.fr_length (k m : Nat) : (Ed.fr k m).length = m := by simp [Ed.fr]
theorem Ed.fr_succ (k m : Nat) : Ed.fr k (m + 1) = Ed.fr k m ++ [((k + m : Nat) : Int)] := by simp [Ed.fr, List.range_succ]

namespace Ed
open Si

theorem fr_at {k m i : Nat} (h : i < m) : (fr k m)[i]? = some ((k + i : Nat) : Int) := by
  unfold fr
  rw [List.getElem?_map, List.getElem?_range h]
  rfl
theorem mem_fr {k m : Nat} {x : Int} : x ∈ fr k m ↔ (k : Int) ≤ x ∧ x < (k : Int) + m := by
  unfold fr
  rw [List.mem_map]
  constructor
  · rintro ⟨i, hi, rfl⟩
    have := List.mem_range.1 hi
    omega
  · rintro ⟨h1, h2⟩
    exact ⟨(x - k).toNat, List.mem_range.2 (by omega), by omega⟩
theorem fr_nodup (k m : Nat) : (fr k m).Nodup := by
  unfold fr
  rw [List.nodup_iff_pairwise_ne, List.pairwise_map]
  refine List.Pairwise.imp ?_ (List.nodup_iff_pairwise_ne.1 (List.nodup_range (n := m)))
  intro a b hab e
  exact hab (by omega)
theorem fr_once {k m N : Nat} (h : k + m ≤ N) : Once (N : Int) (fr k m) := ⟨fun x hx => by have := mem_fr.1 hx; omega, fr_nodup k m⟩
theorem nth_fr {k m N : Nat} (h : k + m ≤ N) {v : Int} (h0 : 0 ≤ v) (h1 : v < N) : nth (pl N (fr k m)) v = if (k : Int) ≤ v ∧ v < (k : Int) + m then v - k else -1 := by
  obtain ⟨u, rfl⟩ : ∃ u : Nat, v = (u : Int) := ⟨v.toNat, by omega⟩
  split
  · rename_i hh
    have hi : u - k < m := by omega
    have := pl_of (fr_once h) (i := u - k) (v := u) (by rw [fr_at hi]; congr 2; omega)
    rw [nth_at this]
    omega
  · rename_i hh
    exact nth_at (pl_none (fr_once h) (by omega) fun hm => hh (mem_fr.1 hm))

/-- Induced to numbers that stand side by side. -/
theorem named_fr {k m N : Nat} {E l : List (Int × Int)} (h : k + m ≤ N) (hv : Val (N : Int) E) (hl : l.Pairwise lt) (hm : ∀ e : Int × Int, e ∈ l ↔ ((k : Int) + e.1, (k : Int) + e.2) ∈ E ∧ 0 ≤ e.1 ∧ e.2 < (m : Int)) : named (pl N (fr k m)) E = l := by
  have hf : Fits (pl N (fr k m)) E := val_fits hv (by rw [pl_length])
  refine sorted_ext (named_sorted _ _) hl fun e => ?_
  rw [mem_named (pl_inj (fr_once h)) hf, hm]
  constructor
  · rintro ⟨p, hp, h1, h2, rfl⟩
    have hok := val_ok hv hp
    unfold ok at hok
    rw [nth_fr h hok.1 (by omega)] at h1 ⊢
    rw [nth_fr h (by omega) hok.2.2] at h2 ⊢
    split at h1
    · split at h2
      · rename_i a1 a2
        rw [if_pos a1, if_pos a2]
        have e1 : norm (p.1 - (k : Int), p.2 - (k : Int)) = (p.1 - (k : Int), p.2 - (k : Int)) := by
          unfold norm
          ext <;> simp <;> omega
        rw [e1]
        refine ⟨?_, by dsimp only; omega, by dsimp only; omega⟩
        have : ((k : Int) + (p.1 - (k : Int)), (k : Int) + (p.2 - (k : Int))) = p := by ext <;> simp <;> omega
        rw [this]
        exact hp
      · omega
    · omega
  · rintro ⟨hp, h1, h2⟩
    have hok := val_ok hv hp
    unfold ok at hok
    dsimp only at hok
    refine ⟨_, hp, ?_, ?_, ?_⟩
    · dsimp only
      rw [nth_fr h hok.1 (by omega), if_pos (by omega)]
      omega
    · dsimp only
      rw [nth_fr h (by omega) hok.2.2, if_pos (by omega)]
      omega
    · dsimp only
      rw [nth_fr h hok.1 (by omega), nth_fr h (by omega) hok.2.2, if_pos (by omega), if_pos (by omega)]
      unfold norm
      ext <;> simp <;> omega

theorem induced_yes {N : Nat} {E : List (Int × Int)} {l : List Int} (hv : Val (N : Int) E) (ho : Once (N : Int) l) : induced (N : Int) E l = ((l.length : Int), named (pl N l) E, 0) := by
  unfold induced
  rw [if_neg (by rw [valid_iff.2 hv]; simp), if_neg (fun h => h ho), Int.toNat_natCast]

/-! ## Beside -/
theorem beside_val {n n' : Int} {es es' : List E} (hv : Val n es) (hv' : Val n' es') (h1 : n + n' ≤ 1048576) (h2 : es.length + es'.length ≤ 4194304) : Val (n + n') (es ++ sh n es') := by
  refine val_of (by have := hv.lo; have := hv'.lo; omega) h1 (by simp [sh]; omega) (fun p hp => ?_) (app_sorted hv hv')
  rcases List.mem_append.1 hp with h | h
  · have := val_ok hv h
    have := hv'.lo
    unfold ok at *
    omega
  · obtain ⟨q, hq, rfl⟩ := mem_sh.1 h
    have := val_ok hv' hq
    have := hv.lo
    unfold ok at *
    dsimp only
    omega
theorem beside_fst {a b : Nat} {es es' : List E} (hv : Val (a : Int) es) (hv' : Val (b : Int) es') (h1 : (a : Int) + b ≤ 1048576) (h2 : es.length + es'.length ≤ 4194304) : induced ((a : Int) + b) (es ++ sh (a : Int) es') (fr 0 a) = ((a : Int), es, 0) := by
  have hV := beside_val hv hv' h1 h2
  have e : (a : Int) + b = ((a + b : Nat) : Int) := by omega
  rw [e] at hV ⊢
  rw [induced_yes hV (fr_once (by omega)), fr_length, named_fr (by omega) hV (sorted_of_val hv)]
  intro x
  simp only [Int.natCast_zero, Int.zero_add]
  constructor
  · intro h
    have := val_ok hv h
    unfold ok at this
    exact ⟨List.mem_append_left _ h, this.1, this.2.2⟩
  · rintro ⟨h, h3, h4⟩
    rcases List.mem_append.1 h with h | h
    · exact h
    · obtain ⟨q, hq, e1⟩ := mem_sh.1 h
      have := val_ok hv' hq
      unfold ok at this
      have e2 := congrArg Prod.snd e1
      dsimp only at e2
      omega
theorem beside_snd {a b : Nat} {es es' : List E} (hv : Val (a : Int) es) (hv' : Val (b : Int) es') (h1 : (a : Int) + b ≤ 1048576) (h2 : es.length + es'.length ≤ 4194304) : induced ((a : Int) + b) (es ++ sh (a : Int) es') (fr a b) = ((b : Int), es', 0) := by
  have hV := beside_val hv hv' h1 h2
  have e : (a : Int) + b = ((a + b : Nat) : Int) := by omega
  rw [e] at hV ⊢
  rw [induced_yes hV (fr_once (by omega)), fr_length, named_fr (by omega) hV (sorted_of_val hv')]
  intro x
  constructor
  · intro h
    have := val_ok hv' h
    unfold ok at this
    exact ⟨List.mem_append_right _ (mem_sh.2 ⟨x, h, rfl⟩), this.1, this.2.2⟩
  · rintro ⟨h, h3, h4⟩
    rcases List.mem_append.1 h with h | h
    · have := val_ok hv h
      unfold ok at this
      dsimp only at this
      omega
    · obtain ⟨q, hq, e1⟩ := mem_sh.1 h
      have e2 := congrArg Prod.fst e1
      have e3 := congrArg Prod.snd e1
      dsimp only at e2 e3
      have : x = q := by ext <;> omega
      rw [this]
      exact hq

end Ed
end Go.Proofs.Ytdkckdbpbdhoaaa
