/-
  The whole scan, token by token: what one step forward does to it.
-/
import Derived.Test.YtmgjfakdjponoabDoorPlain
namespace Go.Proofs.YtmgjfakdjponoabDoor
namespace Nu

/-- What stands ahead of an answer. -/
def pre (ts : List Tok) : Except (Nat × Int) (List Tok) → Except (Nat × Int) (List Tok)
  | .error x => .error x
  | .ok us => .ok (ts ++ us)

theorem pre_nil (r : Except (Nat × Int) (List Tok)) : pre [] r = r := by cases r <;> rfl
theorem pre_pre (a b : List Tok) (r : Except (Nat × Int) (List Tok)) : pre a (pre b r) = pre (a ++ b) r := by cases r <;> simp [pre]

theorem scanF_fault {g : Nat → Int} {n p : Nat} {x : Nat × Int} (k : Nat) (h : next g n p = .error x) : scanF g n (k + 1) p = .error x := by simp [scanF, h]
theorem scanF_last {g : Nat → Int} {n p p' : Nat} {t : Tok} (k : Nat) (h : next g n p = .ok (t, p')) (h3 : t.kind = 3) : scanF g n (k + 1) p = .ok [t] := by simp [scanF, h, h3]
theorem scanF_more {g : Nat → Int} {n p p' : Nat} {t : Tok} (k : Nat) (h : next g n p = .ok (t, p')) (h3 : t.kind ≠ 3) : scanF g n (k + 1) p = pre [t] (scanF g n k p') := by
  simp only [scanF, h, if_neg h3]
  cases scanF g n k p' <;> rfl

/-- A token that is not the end lies behind p, and not beyond n. -/
theorem next_moves {g : Nat → Int} {n p p' : Nat} {t : Tok} (hp : p ≤ n) (h : next g n p = .ok (t, p')) : p' ≤ n ∧ (t.kind ≠ 3 → p < p') := by
  have hs := skip_is isBlank g n p hp
  by_cases h1 : skip isBlank g n p = n
  · rw [h1] at hs
    rw [next_end hs] at h
    cases h
    exact ⟨Nat.le_refl _, fun h => absurd rfl h⟩
  · have hlt : skip isBlank g n p < n := Nat.lt_of_le_of_ne hs.hi h1
    have hlo := hs.lo
    cases hd : isDigit (g (skip isBlank g n p))
    · by_cases h10 : g (skip isBlank g n p) = 10
      · rw [next_line hs hlt h10] at h
        cases h
        exact ⟨hlt, fun _ => by omega⟩
      · rw [next_byte hs hlt hd h10] at h
        cases h
    · have hr := skip_is isDigit g n (skip isBlank g n p) hs.hi
      have hrl : skip isBlank g n p < skip isDigit g n (skip isBlank g n p) := by
        rcases Nat.lt_or_ge (skip isBlank g n p) (skip isDigit g n (skip isBlank g n p)) with h' | h'
        · exact h'
        · have e := Nat.le_antisymm hr.lo h'
          have := hr.stop (by rw [← e]; exact hlt)
          rw [← e, hd] at this
          cases this
      by_cases hb : 9 < skip isDigit g n (skip isBlank g n p) - skip isBlank g n p ∨ (1 < skip isDigit g n (skip isBlank g n p) - skip isBlank g n p ∧ g (skip isBlank g n p) = 48)
      · rw [next_bad hs hlt hd hr hb] at h
        cases h
      · rw [next_num hs hlt hd hr hb] at h
        cases h
        exact ⟨hr.hi, fun _ => by omega⟩

/-- The kinds of tokens are 1, 2, 3; each value fits. -/
theorem next_fits {g : Nat → Int} {n p p' : Nat} {t : Tok} (hp : p ≤ n) (h : next g n p = .ok (t, p')) :
    (t.kind = 1 ∨ t.kind = 2 ∨ t.kind = 3) ∧ 0 ≤ t.at' ∧ t.at' ≤ n ∧ 0 ≤ t.fin ∧ t.fin ≤ n ∧ 0 ≤ t.num ∧ t.num < 1000000000 := by
  have hs := skip_is isBlank g n p hp
  have hhi := hs.hi
  by_cases h1 : skip isBlank g n p = n
  · rw [h1] at hs
    rw [next_end hs] at h
    cases h
    exact ⟨by simp, by simp⟩
  · have hlt : skip isBlank g n p < n := Nat.lt_of_le_of_ne hs.hi h1
    cases hd : isDigit (g (skip isBlank g n p))
    · by_cases h10 : g (skip isBlank g n p) = 10
      · rw [next_line hs hlt h10] at h
        cases h
        refine ⟨by simp, ?_⟩
        dsimp only
        omega
      · rw [next_byte hs hlt hd h10] at h
        cases h
    · have hr := skip_is isDigit g n (skip isBlank g n p) hs.hi
      have hrhi := hr.hi
      by_cases hb : 9 < skip isDigit g n (skip isBlank g n p) - skip isBlank g n p ∨ (1 < skip isDigit g n (skip isBlank g n p) - skip isBlank g n p ∧ g (skip isBlank g n p) = 48)
      · rw [next_bad hs hlt hd hr hb] at h
        cases h
      · rw [next_num hs hlt hd hr hb] at h
        cases h
        have hv := val_lt_9 g (skip isBlank g n p) (skip isDigit g n (skip isBlank g n p) - skip isBlank g n p) (by omega) (fun i hi => by
          have := hr.all (skip isBlank g n p + i) (by omega) (by omega)
          simpa [isDigit] using this)
        refine ⟨by simp, ?_⟩
        dsimp only
        omega

/-- Where the scan goes right, each token comes out of a next. -/
theorem scanF_cons {g : Nat → Int} {n : Nat} {k p : Nat} {t : Tok} {ts : List Tok} (hp : p ≤ n) (h : scanF g n k p = .ok (t :: ts)) :
    ∃ p', next g n p = .ok (t, p') ∧ p' ≤ n ∧ ∃ k', scanF g n k' p' = .ok ts := by
  cases k with
  | zero => simp [scanF] at h
  | succ k =>
    cases hx : next g n p with
    | error x => rw [scanF_fault k hx] at h; cases h
    | ok y =>
      obtain ⟨u, p'⟩ := y
      have hm := next_moves hp hx
      by_cases h3 : u.kind = 3
      · rw [scanF_last k hx h3] at h
        cases h
        exact ⟨p', rfl, hm.1, 0, rfl⟩
      · rw [scanF_more k hx h3] at h
        cases hr : scanF g n k p' with
        | error x => rw [hr] at h; cases h
        | ok us =>
          rw [hr] at h
          simp only [pre, Except.ok.injEq, List.cons_append, List.nil_append, List.cons.injEq] at h
          obtain ⟨rfl, rfl⟩ := h
          exact ⟨p', rfl, hm.1, k, hr⟩

/-- How many tokens there are: at most one more than there are bytes. -/
theorem scanF_length {g : Nat → Int} {n : Nat} : ∀ {k p : Nat} {ts : List Tok}, p ≤ n → scanF g n k p = .ok ts → ts.length ≤ n - p + 1
  | 0, p, ts, _, h => by simp [scanF] at h; subst h; simp
  | k + 1, p, ts, hp, h => by
    cases hx : next g n p with
    | error x => rw [scanF_fault k hx] at h; cases h
    | ok y =>
      obtain ⟨u, p'⟩ := y
      have hm := next_moves hp hx
      by_cases h3 : u.kind = 3
      · rw [scanF_last k hx h3] at h
        cases h
        simp
      · rw [scanF_more k hx h3] at h
        cases hr : scanF g n k p' with
        | error x => rw [hr] at h; cases h
        | ok us =>
          rw [hr] at h
          cases h
          have ih := scanF_length hm.1 hr
          have := hm.2 h3
          simp
          omega

theorem scan_length {g : Nat → Int} {n : Nat} {ts : List Tok} (h : scan g n = .ok ts) : ts.length ≤ n + 1 := by
  have := scanF_length (Nat.zero_le _) h
  omega

end Nu
end Go.Proofs.YtmgjfakdjponoabDoor
