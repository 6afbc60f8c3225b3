/-
  Where tokens lie, and that a number's token is its own decimal numeral.
-/
import Derived.Test.YtmgjfakdjponoabDoorPlain5
import Derived.Test.YtmgjfakdjponoabDoorDigits
namespace Go.Proofs.YtmgjfakdjponoabDoor
namespace Nu

/-- What a next token is. -/
structure Lies (g : Nat → Int) (n p : Nat) (t : Tok) (q p' : Nat) : Prop where
  at_ : t.at' = q
  fin_ : t.fin = p'
  lo : p ≤ q
  hi : p' ≤ n
  blank : ∀ i, p ≤ i → i < q → isBlank (g i) = true
  kinds : (t.kind = 3 ∧ q = n ∧ p' = n) ∨ (t.kind = 2 ∧ q < n ∧ g q = 10 ∧ p' = q + 1) ∨ (t.kind = 1 ∧ q < p' ∧ (∀ i, q ≤ i → i < p' → 48 ≤ g i ∧ g i ≤ 57) ∧ p' - q ≤ 9 ∧ (p' - q = 1 ∨ g q ≠ 48) ∧ t.num = val g q (p' - q))

theorem next_lies {g : Nat → Int} {n p p' : Nat} {t : Tok} (hp : p ≤ n) (h : next g n p = .ok (t, p')) : ∃ q, Lies g n p t q p' := by
  have hs := skip_is isBlank g n p hp
  by_cases h1 : skip isBlank g n p = n
  · rw [h1] at hs
    rw [next_end hs] at h
    cases h
    exact ⟨n, rfl, rfl, hp, Nat.le_refl _, hs.all, .inl ⟨rfl, rfl, rfl⟩⟩
  · generalize skip isBlank g n p = q at *
    have hlt : q < n := Nat.lt_of_le_of_ne hs.hi h1
    cases hd : isDigit (g q)
    · by_cases h10 : g q = 10
      · rw [next_line hs hlt h10] at h
        cases h
        exact ⟨q, rfl, rfl, hs.lo, hlt, hs.all, .inr (.inl ⟨rfl, hlt, h10, rfl⟩)⟩
      · rw [next_byte hs hlt hd h10] at h
        cases h
    · have hr := skip_is isDigit g n q hs.hi
      generalize skip isDigit g n q = r at *
      have hrl : q < r := by
        rcases Nat.lt_or_ge q r with h' | h'
        · exact h'
        · have e := Nat.le_antisymm hr.lo h'
          have := hr.stop (by rw [← e]; exact hlt)
          rw [← e, hd] at this
          cases this
      by_cases hb : 9 < r - q ∨ (1 < r - q ∧ g q = 48)
      · rw [next_bad hs hlt hd hr hb] at h
        cases h
      · rw [next_num hs hlt hd hr hb] at h
        cases h
        refine ⟨q, rfl, rfl, hs.lo, hr.hi, hs.all, .inr (.inr ⟨rfl, hrl, fun i h1 h2 => ?_, by omega, ?_, rfl⟩)⟩
        · have := hr.all i h1 h2
          simpa [isDigit] using this
        · rcases Nat.lt_or_ge 1 (p' - q) with h2 | h2
          · exact .inr (fun e => hb (.inr ⟨h2, e⟩))
          · exact .inl (by omega)

theorem next_end_num {g : Nat → Int} {n p p' : Nat} {t : Tok} (hp : p ≤ n) (h : next g n p = .ok (t, p')) (h3 : t.kind = 3) : t.num = 0 := by
  have hs := skip_is isBlank g n p hp
  by_cases h1 : skip isBlank g n p = n
  · rw [h1] at hs
    rw [next_end hs] at h
    cases h
    rfl
  · obtain ⟨q, hl⟩ := next_lies hp h
    rcases hl.kinds with ⟨_, hq, _⟩ | ⟨h2, _⟩ | ⟨h2, _⟩
    · exfalso
      apply h1
      have hsk : IsSkip isBlank g n p q := ⟨hl.lo, by omega, hl.blank, fun hlt => absurd hlt (by omega)⟩
      rw [← hsk.eq, hq]
    · rw [h2] at h3; cases h3
    · rw [h2] at h3; cases h3

/-- The bytes from q on, k of them. -/
def bytesAt (g : Nat → Int) (q : Nat) : Nat → List UInt8
  | 0 => []
  | k + 1 => bytesAt g q k ++ [UInt8.ofNat (g (q + k)).toNat]

theorem bytesAt_length (g : Nat → Int) (q : Nat) : ∀ k, (bytesAt g q k).length = k
  | 0 => rfl
  | k + 1 => by simp [bytesAt, bytesAt_length g q k]

theorem bytesAt_get (g : Nat → Int) (q : Nat) : ∀ (k i : Nat) (h : i < (bytesAt g q k).length), (bytesAt g q k)[i] = UInt8.ofNat (g (q + i)).toNat
  | 0, i, h => by simp [bytesAt] at h
  | k + 1, i, h => by
    have hl := bytesAt_length g q k
    simp only [bytesAt]
    by_cases hi : i < k
    · rw [List.getElem_append_left (by omega)]
      exact bytesAt_get g q k i (by omega)
    · have : i = k := by rw [bytesAt_length] at h; omega
      subst this
      rw [List.getElem_append_right (by omega)]
      simp [hl]

theorem val_pos (g : Nat → Int) (q : Nat) (hd : 48 < g q) : ∀ k, 0 < k → (∀ i, i < k → 48 ≤ g (q + i) ∧ g (q + i) ≤ 57) → 1 ≤ val g q k
  | 0, h, _ => by omega
  | 1, _, _ => by simp only [val]; rw [Nat.add_zero]; omega
  | k + 2, _, h => by
    have ih := val_pos g q hd (k + 1) (by omega) (fun i hi => h i (by omega))
    have := h (k + 1) (by omega)
    rw [val]
    omega

/-- A number's bytes are its decimal numeral. -/
theorem itoa_val (g : Nat → Int) (q : Nat) : ∀ k, 0 < k → (∀ i, i < k → 48 ≤ g (q + i) ∧ g (q + i) ≤ 57) → (k = 1 ∨ g q ≠ 48) → Lib.itoa (val g q k) = bytesAt g q k
  | 0, h, _, _ => by omega
  | k + 1, _, h, hz => by
    have hk := h k (by omega)
    have hvb := val_bound g q (k + 1) h
    obtain ⟨u, hu⟩ : ∃ u : Nat, val g q (k + 1) = u := ⟨(val g q (k + 1)).toNat, by omega⟩
    have hu' : (u : Int) = 10 * val g q k + (g (q + k) - 48) := by rw [← hu]; rfl
    rw [hu]
    have e0 : Lib.itoa (u : Int) = Lib.decDigits u := by unfold Lib.itoa; rw [if_neg (by omega)]; simp
    rw [e0]
    simp only [bytesAt]
    by_cases h0 : k = 0
    · subst h0
      simp only [val, bytesAt, List.nil_append] at hu' ⊢
      rw [Lib.decDigits_one (by omega)]
      congr 2
      omega
    · have hne : g q ≠ 48 := by
        rcases hz with h1 | h1
        · omega
        · exact h1
      have h00 := h 0 (by omega)
      rw [Nat.add_zero] at h00
      have hvp := val_pos g q (by omega) k (by omega) (fun i hi => h i (by omega))
      have ih := itoa_val g q k (by omega) (fun i hi => h i (by omega)) (.inr hne)
      obtain ⟨v, hv⟩ : ∃ v : Nat, val g q k = v := ⟨(val g q k).toNat, by omega⟩
      rw [hv] at ih hu' hvp
      have e1 : Lib.itoa (v : Int) = Lib.decDigits v := by unfold Lib.itoa; rw [if_neg (by omega)]; simp
      rw [e1] at ih
      have hd : u / 10 = v := by omega
      have hm : u % 10 = (g (q + k)).toNat - 48 := by omega
      rw [Lib.decDigits, dif_neg (by omega), hd, ih, hm]
      congr 3
      omega

/-- The end alone ends a scan that had room. -/
theorem scanF_end {g : Nat → Int} {n k p : Nat} {t : Tok} {ts : List Tok} (hp : p ≤ n) (hk : n - p < k) (h : scanF g n k p = .ok (t :: ts)) :
    ∃ p', next g n p = .ok (t, p') ∧ p' ≤ n ∧ ((t.kind = 3 ∧ ts = []) ∨ (t.kind ≠ 3 ∧ ∃ k', n - p' < k' ∧ scanF g n k' p' = .ok ts)) := by
  obtain ⟨k, rfl⟩ : ∃ k', k = k' + 1 := ⟨k - 1, by omega⟩
  cases hx : next g n p with
  | error x => rw [scanF_fault k hx] at h; cases h
  | ok y =>
    obtain ⟨u, p'⟩ := y
    have hm := next_moves hp hx
    by_cases h3 : u.kind = 3
    · rw [scanF_last k hx h3] at h
      cases h
      exact ⟨p', rfl, hm.1, .inl ⟨h3, rfl⟩⟩
    · rw [scanF_more k hx h3] at h
      cases hr : scanF g n k p' with
      | error x => rw [hr] at h; cases h
      | ok us =>
        rw [hr] at h
        simp only [pre, Except.ok.injEq, List.cons_append, List.nil_append, List.cons.injEq] at h
        obtain ⟨rfl, rfl⟩ := h
        have := hm.2 h3
        exact ⟨p', rfl, hm.1, .inr ⟨h3, k, by omega, hr⟩⟩

theorem scanF_nonempty {g : Nat → Int} {n k p : Nat} (hk : n - p < k) : scanF g n k p ≠ .ok [] := by
  intro h
  obtain ⟨k, rfl⟩ : ∃ k', k = k' + 1 := ⟨k - 1, by omega⟩
  cases hx : next g n p with
  | error x => rw [scanF_fault k hx] at h; cases h
  | ok y =>
    obtain ⟨u, p'⟩ := y
    by_cases h3 : u.kind = 3
    · rw [scanF_last k hx h3] at h; cases h
    · rw [scanF_more k hx h3] at h
      cases hr : scanF g n k p' with
      | error x => rw [hr] at h; cases h
      | ok us => rw [hr] at h; cases h

end Nu
end Go.Proofs.YtmgjfakdjponoabDoor
