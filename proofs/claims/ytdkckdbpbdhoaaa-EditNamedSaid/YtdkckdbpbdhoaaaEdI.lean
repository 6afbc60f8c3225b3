/-
  Graphs out of graphs, pure: the law's own list of places, from one on, and how many it met.
-/
import Derived.Test.YtdkckdbpbdhoaaaEdH
namespace Go.Proofs.Ytdkckdbpbdhoaaa
namespace Ed

/-- The places of the first k, from one on, and how many were met first. -/
def bk (m : Nat) (l : List Int) : Nat → List Int × Nat
  | 0 => (List.replicate m 0, 0)
  | k + 1 => if (l.length = m ∧ 0 ≤ l.getD k 0 ∧ l.getD k 0 < (m : Int)) ∧ (bk m l k).1.getD (l.getD k 0).toNat 0 = 0 then ((bk m l k).1.set (l.getD k 0).toNat ((k : Int) + 1), (bk m l k).2 + 1) else bk m l k

theorem bk_length (m : Nat) (l : List Int) : ∀ k, (bk m l k).1.length = m
  | 0 => by simp [bk]
  | k + 1 => by
    unfold bk
    split
    · simp [bk_length m l k]
    · exact bk_length m l k
theorem bk_le (m : Nat) (l : List Int) : ∀ k, (bk m l k).2 ≤ k
  | 0 => by simp [bk]
  | k + 1 => by
    have := bk_le m l k
    unfold bk
    split
    · dsimp only; omega
    · omega
theorem bk_bound (m : Nat) (l : List Int) : ∀ k, ∀ x ∈ (bk m l k).1, 0 ≤ x ∧ x ≤ (k : Int)
  | 0 => fun x hx => by
    have := List.eq_of_mem_replicate hx
    omega
  | k + 1 => fun x hx => by
    unfold bk at hx
    split at hx
    · rcases List.mem_or_eq_of_mem_set hx with h | h
      · have := bk_bound m l k x h; omega
      · omega
    · have := bk_bound m l k x hx; omega
theorem bk_yes {m k : Nat} {l : List Int} {n : Int} (hl : l.length = m) (hn : l[k]? = some n) (h0 : 0 ≤ n) (h1 : n < (m : Int)) (hb : (bk m l k).1[n.toNat]? = some 0) : bk m l (k + 1) = ((bk m l k).1.set n.toNat ((k : Int) + 1), (bk m l k).2 + 1) := by
  have hd : l.getD k 0 = n := by rw [List.getD_eq_getElem?_getD, hn]; rfl
  conv => lhs; unfold bk
  rw [hd, if_pos ⟨⟨hl, h0, h1⟩, by rw [List.getD_eq_getElem?_getD, hb]; rfl⟩]
theorem bk_no {m k : Nat} {l : List Int} {n : Int} (hn : l[k]? = some n) (h : ¬ (l.length = m ∧ 0 ≤ n ∧ n < (m : Int))) : bk m l (k + 1) = bk m l k := by
  have hd : l.getD k 0 = n := by rw [List.getD_eq_getElem?_getD, hn]; rfl
  conv => lhs; unfold bk
  rw [hd, if_neg (fun hh => h hh.1)]
theorem bk_met {m k : Nat} {l : List Int} {n x : Int} (hn : l[k]? = some n) (hb : (bk m l k).1[n.toNat]? = some x) (hx : x ≠ 0) : bk m l (k + 1) = bk m l k := by
  have hd : l.getD k 0 = n := by rw [List.getD_eq_getElem?_getD, hn]; rfl
  conv => lhs; unfold bk
  rw [hd, if_neg (fun hh => hx ?_)]
  have := hh.2
  rw [List.getD_eq_getElem?_getD, hb] at this
  exact this

theorem bk_spec {m : Nat} {l : List Int} (hl : l.length = m) : ∀ {k : Nat}, k ≤ l.length → (OnceTo (m : Int) l k ∧ (bk m l k).2 = k ∧ (bk m l k).1 = (pls m l k).map (· + 1)) ∨ (¬ OnceTo (m : Int) l k ∧ (bk m l k).2 < k)
  | 0, _ => Or.inl ⟨fun i x hi => by omega, rfl, by simp [bk, pls]⟩
  | k + 1, hk => by
    have hg : l[k]? = some l[k] := List.getElem?_eq_getElem (by omega)
    have hd : l.getD k 0 = l[k] := by rw [List.getD_eq_getElem?_getD, hg]; rfl
    generalize l[k] = n at hg hd
    rcases bk_spec hl (k := k) (by omega) with ⟨ho, e2, e1⟩ | ⟨ho, h2⟩
    · by_cases hin : 0 ≤ n ∧ n < (m : Int)
      · have hlt : n.toNat < (pls m l k).length := by rw [pls_length]; omega
        have hp := List.getElem?_eq_getElem hlt
        have hb : (bk m l k).1[n.toNat]? = some ((pls m l k)[n.toNat] + 1) := by rw [e1, List.getElem?_map, hp]; rfl
        rcases pls_at (by omega) ho _ _ hp with ⟨ex, hnone⟩ | ⟨i, hi, ex, hli⟩
        · left
          rw [ex] at hb
          rw [bk_yes hl hg hin.1 hin.2 hb]
          refine ⟨fun i x hi hx => ?_, by dsimp only; omega, ?_⟩
          · by_cases hik : i = k
            · subst hik
              rw [hg] at hx
              cases hx
              exact ⟨hin, fun j hj => by have := hnone j hj; rwa [show ((n.toNat : Nat) : Int) = n by omega] at this⟩
            · exact ho i x (by omega) hx
          · dsimp only
            simp only [pls, hd, e1, List.map_set]
        · right
          rw [bk_met hg hb (by omega)]
          refine ⟨fun hc => ?_, by omega⟩
          exact (hc k n (by omega) hg).2 i hi (by rw [hli]; congr 1; omega)
      · right
        rw [bk_no hg (fun hh => hin hh.2)]
        exact ⟨fun hc => hin (hc k n (by omega) hg).1, by omega⟩
    · right
      refine ⟨fun hc => ho fun i x hi => hc i x (by omega), ?_⟩
      unfold bk
      split
      · dsimp only; omega
      · omega

/-- All met: a list of all, each once; the places are pl's. -/
theorem bk_all {m : Nat} {l : List Int} (hl : l.length = m) (h : (bk m l l.length).2 = m) : Perm m l ∧ (bk m l l.length).1 = (pl m l).map (· + 1) := by
  rcases bk_spec hl (Nat.le_refl l.length) with ⟨ho, _, e1⟩ | ⟨_, h2⟩
  · exact ⟨⟨once_iff.2 ho, hl⟩, e1⟩
  · omega
theorem bk_few {m : Nat} {l : List Int} (h : ¬ (l.length = m ∧ (bk m l l.length).2 = m)) : ¬ (Once (m : Int) l ∧ (l.length : Int) = (m : Int)) := fun hh => by
  have hl : l.length = m := by omega
  rcases bk_spec hl (Nat.le_refl l.length) with ⟨_, e2, _⟩ | ⟨hn, _⟩
  · exact h ⟨hl, by omega⟩
  · exact hn (once_iff.1 hh.1)
/-- The second loop takes one off each. -/
theorem less_one (l : List Int) {k : Nat} {x : Int} (hx : (l.map (· + 1))[k]? = some x) : ((l.take k) ++ (l.map (· + 1)).drop k).set k (x - 1) = l.take (k + 1) ++ (l.map (· + 1)).drop (k + 1) := by
  obtain ⟨hk, e⟩ := List.getElem?_eq_some_iff.1 hx
  have hk' : k < l.length := by simpa using hk
  have hx' : x - 1 = l[k] := by rw [← e]; simp
  refine List.ext_getElem? fun i => ?_
  rw [List.getElem?_set]
  by_cases hik : k = i
  · subst hik
    rw [if_pos rfl, if_pos (by simp; omega), List.getElem?_append_left (by simp; omega), List.getElem?_take, if_pos (by omega), hx', List.getElem?_eq_getElem hk']
  · rw [if_neg hik]
    by_cases hlt : i < k
    · rw [List.getElem?_append_left (by simp; omega), List.getElem?_append_left (by simp; omega), List.getElem?_take, List.getElem?_take, if_pos hlt, if_pos (by omega)]
    · rw [List.getElem?_append_right (by simp; omega), List.getElem?_append_right (by simp; omega), List.getElem?_drop, List.getElem?_drop]
      congr 1
      simp only [List.length_take]
      omega

end Ed
end Go.Proofs.Ytdkckdbpbdhoaaa
