import Derived.Test.YtodlejemkihjnaaDoorMg04
import Derived.Lib.ItoaNum
/-
  The scan byte by byte, as the document's own answer goes: what a blank, a line's end, a digit, another byte do to it.
-/
namespace Go.Proofs.YtodlejemkihjnaaDoor
namespace Nu

theorem IsSkip.here {f : Int → Bool} {g : Nat → Int} {n p : Nat} (hp : p ≤ n) (h : p < n → f (g p) = false) : IsSkip f g n p p :=
  ⟨Nat.le_refl _, hp, fun i h1 h2 => by omega, h⟩

theorem IsSkip.back {f : Int → Bool} {g : Nat → Int} {n p q : Nat} (h : IsSkip f g n (p + 1) q) (hf : f (g p) = true) : IsSkip f g n p q :=
  ⟨by have := h.lo; omega, h.hi, fun i h1 h2 => by
    by_cases e : i = p
    · subst e; exact hf
    · exact h.all i (by omega) h2, h.stop⟩

theorem next_blank {g : Nat → Int} {n p : Nat} (hp : p < n) (h : isBlank (g p) = true) : next g n p = next g n (p + 1) := by
  have e : skip isBlank g n p = skip isBlank g n (p + 1) := ((skip_is isBlank g n (p + 1) hp).back h).eq.symm
  unfold next
  rw [e]

theorem scanF_blank {g : Nat → Int} {n p : Nat} (k : Nat) (hp : p < n) (h : isBlank (g p) = true) : scanF g n k p = scanF g n k (p + 1) := by
  cases k with
  | zero => rfl
  | succ k => simp only [scanF, next_blank hp h]

theorem not_blank_of_digit {c : Int} (h : isDigit c = true) : isBlank c = false := by
  simp [isDigit] at h
  simp [isBlank]
  omega

theorem val_min_succ {g : Nat → Int} {i j : Nat} (hij : i ≤ j) (h : j - i < 9) : val g i (min (j + 1 - i) 9) = 10 * val g i (min (j - i) 9) + (g j - 48) := by
  have e1 : min (j + 1 - i) 9 = (j - i) + 1 := by omega
  have e2 : min (j - i) 9 = j - i := by omega
  rw [e1, e2]
  simp only [val]
  rw [show i + (j - i) = j by omega]

theorem val_min_same {g : Nat → Int} {i j : Nat} (h : 9 ≤ j - i) : val g i (min (j + 1 - i) 9) = val g i (min (j - i) 9) := by
  rw [show min (j + 1 - i) 9 = 9 by omega, show min (j - i) 9 = 9 by omega]

end Nu

end Go.Proofs.YtodlejemkihjnaaDoor

/-
  The scan of two texts with a line's end between, out of the scans of the two.
-/
namespace Go.Proofs.YtodlejemkihjnaaDoor
namespace Nu

/-- How much may come does not matter, if it is enough. -/
theorem scanF_fuel {g : Nat → Int} {n : Nat} : ∀ (k k' p : Nat), p ≤ n → n - p < k → n - p < k' → scanF g n k p = scanF g n k' p
  | 0, _, p, _, h, _ => by omega
  | _ + 1, 0, p, _, _, h => by omega
  | k + 1, k' + 1, p, hp, h, h' => by
    cases hx : next g n p with
    | error x => rw [scanF_fault k hx, scanF_fault k' hx]
    | ok y =>
      obtain ⟨u, p'⟩ := y
      have hm := next_moves hp hx
      by_cases h3 : u.kind = 3
      · rw [scanF_last k hx h3, scanF_last k' hx h3]
      · have := hm.2 h3
        rw [scanF_more k hx h3, scanF_more k' hx h3, scanF_fuel k k' p' hm.1 (by omega) (by omega)]

/-- g is ga up to na, then a line's end, then gb. -/
structure Joined (g ga gb : Nat → Int) (n na nb : Nat) : Prop where
  size : n = na + 1 + nb
  fst : ∀ i, i < na → g i = ga i
  mid : g na = 10
  snd : ∀ i, i < nb → g (na + 1 + i) = gb i

section
variable {g ga gb : Nat → Int} {n na nb : Nat}

theorem IsSkip.fst (j : Joined g ga gb n na nb) {f : Int → Bool} (h10 : f 10 = false) {p q : Nat} (h : IsSkip f ga na p q) : IsSkip f g n p q := by
  have hs := j.size
  have hh := h.hi
  refine ⟨h.lo, by omega, fun i h1 h2 => ?_, fun _ => ?_⟩
  · rw [j.fst i (by omega)]; exact h.all i h1 h2
  · by_cases hq : q < na
    · rw [j.fst q hq]; exact h.stop hq
    · have : q = na := by omega
      subst this
      rw [j.mid]; exact h10

theorem IsSkip.snd (j : Joined g ga gb n na nb) {f : Int → Bool} {p q : Nat} (h : IsSkip f gb nb p q) : IsSkip f g n (na + 1 + p) (na + 1 + q) := by
  have hs := j.size
  have hh := h.hi
  have hl := h.lo
  refine ⟨by omega, by omega, fun i h1 h2 => ?_, fun hn => ?_⟩
  · have e : i = na + 1 + (i - (na + 1)) := by omega
    rw [e, j.snd (i - (na + 1)) (by omega)]; exact h.all _ (by omega) (by omega)
  · rw [j.snd q (by omega)]; exact h.stop (by omega)

theorem val_congr {g g' : Nat → Int} {q q' : Nat} : ∀ k, (∀ i, i < k → g (q + i) = g' (q' + i)) → val g q k = val g' q' k
  | 0, _ => rfl
  | k + 1, h => by simp only [val]; rw [val_congr k (fun i hi => h i (by omega)), h k (by omega)]

theorem blank10 : isBlank 10 = false := by decide
theorem digit10 : isDigit 10 = false := by decide

/-- In the first text the next token is its own, but for its end: there stands the line's end. -/
theorem next_fst (j : Joined g ga gb n na nb) {p : Nat} (hp : p ≤ na) :
    (next ga na p = .ok (⟨3, na, na, 0⟩, na) ∧ next g n p = .ok (⟨2, na, (na : Int) + 1, 0⟩, na + 1)) ∨
    (next g n p = next ga na p ∧ ∀ t p', next ga na p = .ok (t, p') → t.kind ≠ 3) := by
  have hs := skip_is isBlank ga na p hp
  have hs' := hs.fst j blank10
  have hsz := j.size
  by_cases h1 : skip isBlank ga na p = na
  · rw [h1] at hs hs'
    exact .inl ⟨next_end hs, next_line hs' (by omega) j.mid⟩
  · right
    generalize hq : skip isBlank ga na p = q at *
    have hlt : q < na := Nat.lt_of_le_of_ne hs.hi h1
    have hgq := j.fst q hlt
    cases hd : isDigit (ga q)
    · by_cases h10 : ga q = 10
      · rw [next_line hs hlt h10, next_line hs' (by omega) (by rw [hgq]; exact h10)]
        exact ⟨rfl, fun t p' h => by cases h; simp⟩
      · rw [next_byte hs hlt hd h10, next_byte hs' (by omega) (by rw [hgq]; exact hd) (by rw [hgq]; exact h10)]
        exact ⟨rfl, fun t p' h => by cases h⟩
    · have hr := skip_is isDigit ga na q hs.hi
      have hr' := hr.fst j digit10
      generalize skip isDigit ga na q = r at *
      have hrh := hr.hi
      by_cases hb : 9 < r - q ∨ (1 < r - q ∧ ga q = 48)
      · rw [next_bad hs hlt hd hr hb, next_bad hs' (by omega) (by rw [hgq]; exact hd) hr' (by rw [hgq]; exact hb)]
        exact ⟨rfl, fun t p' h => by cases h⟩
      · rw [next_num hs hlt hd hr hb, next_num hs' (by omega) (by rw [hgq]; exact hd) hr' (by rw [hgq]; exact hb)]
        rw [val_congr (g := g) (g' := ga) (q := q) (q' := q) (r - q) (fun i hi => j.fst (q + i) (by omega))]
        exact ⟨rfl, fun t p' h => by cases h; simp⟩

def Tok.on (m : Nat) (t : Tok) : Tok := ⟨t.kind, t.at' + m, t.fin + m, t.num⟩

/-- Moved on by m. -/
def on (m : Nat) : Except (Nat × Int) (List Tok) → Except (Nat × Int) (List Tok)
  | .error x => .error (x.1 + m, x.2)
  | .ok ts => .ok (ts.map (Tok.on m))

/-- In the second text the next token is its own, moved on. -/
theorem next_snd (j : Joined g ga gb n na nb) {p : Nat} (hp : p ≤ nb) :
    (∀ t p', next gb nb p = .ok (t, p') → next g n (na + 1 + p) = .ok (t.on (na + 1), na + 1 + p')) ∧
    (∀ x, next gb nb p = .error x → next g n (na + 1 + p) = .error (x.1 + (na + 1), x.2)) := by
  have hs := skip_is isBlank gb nb p hp
  have hs' := hs.snd j
  have hsz := j.size
  by_cases h1 : skip isBlank gb nb p = nb
  · rw [h1] at hs hs'
    have e : na + 1 + nb = n := by omega
    rw [e] at hs'
    rw [next_end hs, next_end hs']
    refine ⟨fun t p' h => ?_, fun x h => by cases h⟩
    cases h
    simp only [Tok.on, Except.ok.injEq, Prod.mk.injEq, Tok.mk.injEq, true_and, and_true]
    omega
  · generalize hq : skip isBlank gb nb p = q at *
    have hlt : q < nb := Nat.lt_of_le_of_ne hs.hi h1
    have hgq := j.snd q hlt
    cases hd : isDigit (gb q)
    · by_cases h10 : gb q = 10
      · rw [next_line hs hlt h10, next_line hs' (by omega) (by rw [hgq]; exact h10)]
        refine ⟨fun t p' h => ?_, fun x h => by cases h⟩
        cases h
        simp only [Tok.on, Except.ok.injEq, Prod.mk.injEq, Tok.mk.injEq, true_and, and_true]
        omega
      · rw [next_byte hs hlt hd h10, next_byte hs' (by omega) (by rw [hgq]; exact hd) (by rw [hgq]; exact h10)]
        refine ⟨fun t p' h => (by cases h), fun x h => ?_⟩
        cases h
        rw [Nat.add_comm]
    · have hr := skip_is isDigit gb nb q hs.hi
      have hr' := hr.snd j
      generalize skip isDigit gb nb q = r at *
      have hrh := hr.hi
      have hrl := hr.lo
      have e : na + 1 + r - (na + 1 + q) = r - q := by omega
      by_cases hb : 9 < r - q ∨ (1 < r - q ∧ gb q = 48)
      · rw [next_bad hs hlt hd hr hb, next_bad hs' (by omega) (by rw [hgq]; exact hd) hr' (by rw [hgq, e]; exact hb)]
        refine ⟨fun t p' h => (by cases h), fun x h => ?_⟩
        cases h
        rw [Nat.add_comm]
      · rw [next_num hs hlt hd hr hb, next_num hs' (by omega) (by rw [hgq]; exact hd) hr' (by rw [hgq, e]; exact hb), e]
        rw [val_congr (g := g) (g' := gb) (q := na + 1 + q) (q' := q) (r - q) (fun i hi => by rw [show na + 1 + q + i = na + 1 + (q + i) by omega]; exact j.snd (q + i) (by omega))]
        refine ⟨fun t p' h => ?_, fun x h => by cases h⟩
        cases h
        simp only [Tok.on, Except.ok.injEq, Prod.mk.injEq, Tok.mk.injEq, true_and, and_true]
        omega

theorem scanF_snd (j : Joined g ga gb n na nb) : ∀ (k p : Nat), p ≤ nb → scanF g n k (na + 1 + p) = on (na + 1) (scanF gb nb k p)
  | 0, p, _ => by simp [scanF, on]
  | k + 1, p, hp => by
    obtain ⟨h1, h2⟩ := next_snd j hp
    cases hx : next gb nb p with
    | error x => rw [scanF_fault k hx, scanF_fault k (h2 x hx)]; rfl
    | ok y =>
      obtain ⟨u, p'⟩ := y
      have hm := next_moves hp hx
      by_cases h3 : u.kind = 3
      · rw [scanF_last k hx h3, scanF_last k (h1 u p' hx) h3]; rfl
      · rw [scanF_more k hx h3, scanF_more k (h1 u p' hx) h3, scanF_snd j k p' hm.1]
        cases scanF gb nb k p' <;> simp [pre, on]

/-- The first text: its fault is the fault; else its tokens without the end, the line's end, and what follows. -/
theorem scanF_fst (j : Joined g ga gb n na nb) : ∀ (k p : Nat), p ≤ na → na - p < k →
    (∀ x, scanF ga na k p = .error x → scanF g n (k + 1 + nb) p = .error x) ∧
    (∀ ts, scanF ga na k p = .ok ts → ∃ us k', ts = us ++ [⟨3, na, na, 0⟩] ∧ nb < k' ∧ scanF g n (k + 1 + nb) p = pre (us ++ [⟨2, na, (na : Int) + 1, 0⟩]) (scanF g n k' (na + 1)))
  | 0, p, _, h => by omega
  | k + 1, p, hp, hk => by
    rcases next_fst j hp with ⟨h1, h2⟩ | ⟨h1, h2⟩
    · rw [scanF_last k h1 rfl]
      refine ⟨fun x h => (by cases h), fun ts h => ?_⟩
      cases h
      refine ⟨[], k + 1 + nb, rfl, by omega, ?_⟩
      rw [show k + 1 + 1 + nb = (k + 1 + nb) + 1 by omega, scanF_more _ h2 (by simp)]
      rfl
    · cases hx : next ga na p with
      | error x =>
        rw [scanF_fault k hx, show k + 1 + 1 + nb = (k + 1 + nb) + 1 by omega, scanF_fault _ (h1.trans hx)]
        exact ⟨fun y h => h, fun ts h => by cases h⟩
      | ok y =>
        obtain ⟨u, p'⟩ := y
        have h3 := h2 u p' hx
        have hm := next_moves hp hx
        have hmp := hm.2 h3
        obtain ⟨i1, i2⟩ := scanF_fst j k p' hm.1 (by omega)
        rw [scanF_more k hx h3, show k + 1 + 1 + nb = (k + 1 + nb) + 1 by omega, scanF_more _ (h1.trans hx) h3]
        cases hr : scanF ga na k p' with
        | error x =>
          rw [i1 x hr]
          exact ⟨fun y h => h, fun ts h => by cases h⟩
        | ok us =>
          obtain ⟨vs, k', e1, e2, e3⟩ := i2 us hr
          refine ⟨fun y h => (by cases h), fun ts h => ?_⟩
          cases h
          refine ⟨u :: vs, k', by rw [e1]; rfl, e2, ?_⟩
          rw [e3, pre_pre]
          rfl

/-- Two texts with a line's end between. -/
theorem scan_joined (j : Joined g ga gb n na nb) :
    (∀ x, scan ga na = .error x → scan g n = .error x) ∧
    (∀ ts, scan ga na = .ok ts → ∃ us, ts = us ++ [⟨3, na, na, 0⟩] ∧ scan g n = pre (us ++ [⟨2, na, (na : Int) + 1, 0⟩]) (on (na + 1) (scan gb nb))) := by
  have hsz := j.size
  obtain ⟨h1, h2⟩ := scanF_fst j (na + 1) 0 (Nat.zero_le _) (by omega)
  have e : scanF g n (na + 1 + 1 + nb) 0 = scan g n := scanF_fuel _ _ 0 (Nat.zero_le _) (by omega) (by omega)
  rw [e] at h1 h2
  refine ⟨h1, fun ts h => ?_⟩
  obtain ⟨us, k', e1, e2, e3⟩ := h2 ts h
  refine ⟨us, e1, ?_⟩
  rw [e3]
  have e4 := scanF_snd j k' 0 (Nat.zero_le _)
  rw [Nat.add_zero] at e4
  rw [e4]
  have e5 : scanF gb nb k' 0 = scan gb nb := scanF_fuel _ _ 0 (Nat.zero_le _) (by omega) (by omega)
  rw [e5]

end
end Nu
end Go.Proofs.YtodlejemkihjnaaDoor

/-
  The numbers of faults, the bounds of tokens, and two lists of bytes with a line's end between.
-/
namespace Go.Proofs.YtodlejemkihjnaaDoor
namespace Nu

theorem next_code {g : Nat → Int} {n p : Nat} {x : Nat × Int} (hp : p ≤ n) (h : next g n p = .error x) : (x.2 = 11 ∨ x.2 = 12) ∧ x.1 < n := by
  have hs := skip_is isBlank g n p hp
  by_cases h1 : skip isBlank g n p = n
  · rw [h1] at hs
    rw [next_end hs] at h
    cases h
  · have hlt : skip isBlank g n p < n := Nat.lt_of_le_of_ne hs.hi h1
    cases hd : isDigit (g (skip isBlank g n p))
    · by_cases h10 : g (skip isBlank g n p) = 10
      · rw [next_line hs hlt h10] at h
        cases h
      · rw [next_byte hs hlt hd h10] at h
        cases h
        exact ⟨.inl rfl, hlt⟩
    · have hr := skip_is isDigit g n (skip isBlank g n p) hs.hi
      by_cases hb : 9 < skip isDigit g n (skip isBlank g n p) - skip isBlank g n p ∨ (1 < skip isDigit g n (skip isBlank g n p) - skip isBlank g n p ∧ g (skip isBlank g n p) = 48)
      · rw [next_bad hs hlt hd hr hb] at h
        cases h
        exact ⟨.inr rfl, hlt⟩
      · rw [next_num hs hlt hd hr hb] at h
        cases h

theorem scanF_code {g : Nat → Int} {n : Nat} {x : Nat × Int} : ∀ {k p : Nat}, p ≤ n → scanF g n k p = .error x → (x.2 = 11 ∨ x.2 = 12) ∧ x.1 < n
  | 0, p, _, h => by simp [scanF] at h
  | k + 1, p, hp, h => by
    cases hx : next g n p with
    | error y =>
      rw [scanF_fault k hx] at h
      cases h
      exact next_code hp hx
    | ok y =>
      obtain ⟨u, p'⟩ := y
      have hm := next_moves hp hx
      by_cases h3 : u.kind = 3
      · rw [scanF_last k hx h3] at h
        cases h
      · rw [scanF_more k hx h3] at h
        cases hr : scanF g n k p' with
        | error y =>
          rw [hr] at h
          cases h
          exact scanF_code hm.1 hr
        | ok us => rw [hr] at h; cases h

theorem scan_code {g : Nat → Int} {n : Nat} {x : Nat × Int} (h : scan g n = .error x) : (x.2 = 11 ∨ x.2 = 12) ∧ x.1 < n := scanF_code (Nat.zero_le _) h

def Fits (n : Nat) (t : Tok) : Prop := (t.kind = 1 ∨ t.kind = 2 ∨ t.kind = 3) ∧ 0 ≤ t.at' ∧ t.at' ≤ n ∧ 0 ≤ t.fin ∧ t.fin ≤ n ∧ 0 ≤ t.num ∧ t.num < 1000000000

theorem scanF_fits {g : Nat → Int} {n : Nat} : ∀ {ts : List Tok} {k p : Nat}, p ≤ n → scanF g n k p = .ok ts → ∀ t ∈ ts, Fits n t
  | [], _, _, _, _, t, ht => by cases ht
  | u :: us, k, p, hp, h, t, ht => by
    obtain ⟨p', hn, hp', k', hs⟩ := scanF_cons hp h
    rcases List.mem_cons.1 ht with rfl | ht
    · exact next_fits hp hn
    · exact scanF_fits hp' hs t ht

theorem scan_fits {g : Nat → Int} {n : Nat} {ts : List Tok} (h : scan g n = .ok ts) : ∀ t ∈ ts, Fits n t := scanF_fits (Nat.zero_le _) h

theorem joined_lists (za zb : List Int) (na nb : Nat) (ha : (za.take na).length = na) (_hb : (zb.take nb).length = nb) :
    Joined (fun i => (za.take na ++ [10] ++ zb.take nb).getD i 0) (fun i => za.getD i 0) (fun i => zb.getD i 0) (na + 1 + nb) na nb := by
  refine ⟨rfl, fun i hi => ?_, ?_, fun i hi => ?_⟩
  · show (za.take na ++ [10] ++ zb.take nb).getD i 0 = za.getD i 0
    rw [List.getD_eq_getElem?_getD, List.getD_eq_getElem?_getD, List.append_assoc, List.getElem?_append_left (by omega), List.getElem?_take, if_pos hi]
  · show (za.take na ++ [10] ++ zb.take nb).getD na 0 = 10
    rw [List.getD_eq_getElem?_getD, List.append_assoc, List.getElem?_append_right (by omega), ha]
    simp
  · show (za.take na ++ [10] ++ zb.take nb).getD (na + 1 + i) 0 = zb.getD i 0
    rw [List.getD_eq_getElem?_getD, List.getD_eq_getElem?_getD, List.getElem?_append_right (by rw [List.length_append, ha]; simp)]
    have e : na + 1 + i - (za.take na ++ [10]).length = i := by rw [List.length_append, ha]; simp
    rw [e, List.getElem?_take, if_pos hi]

end Nu
end Go.Proofs.YtodlejemkihjnaaDoor

/-
  Decimal numerals: their bytes are digits, and two numbers of one numeral are one.
-/
namespace Go.Proofs.YtodlejemkihjnaaDoor

/-- What digits write. -/
def numOf (l : List UInt8) : Nat := l.foldl (fun a b => 10 * a + (b.toNat - 48)) 0

theorem numOf_snoc (l : List UInt8) (c : UInt8) : numOf (l ++ [c]) = 10 * numOf l + (c.toNat - 48) := by simp [numOf, List.foldl_append]

theorem byte_digit (d : Nat) (h : d < 10) : (UInt8.ofNat (48 + d)).toNat = 48 + d := by
  simp
  omega

theorem numOf_digits (u : Nat) : numOf (Lib.decDigits u) = u := by
  induction u using Nat.strongRecOn with
  | _ u ih =>
    by_cases h : u < 10
    · rw [Lib.decDigits_one h]
      show 10 * 0 + ((UInt8.ofNat (48 + u)).toNat - 48) = u
      rw [byte_digit u h]
      omega
    · rw [Lib.decDigits, dif_neg h, numOf_snoc, ih (u / 10) (by omega), byte_digit (u % 10) (by omega)]
      omega

theorem digits_all (u : Nat) : ∀ c ∈ Lib.decDigits u, 48 ≤ c.toNat ∧ c.toNat ≤ 57 := by
  induction u using Nat.strongRecOn with
  | _ u ih =>
    by_cases h : u < 10
    · rw [Lib.decDigits_one h]
      intro c hc
      simp only [List.mem_singleton] at hc
      rw [hc, byte_digit u h]
      omega
    · rw [Lib.decDigits, dif_neg h]
      intro c hc
      rcases List.mem_append.1 hc with hc | hc
      · exact ih (u / 10) (by omega) c hc
      · simp only [List.mem_singleton] at hc
        rw [hc, byte_digit (u % 10) (by omega)]
        omega

theorem digits_inj {u v : Nat} (h : Lib.decDigits u = Lib.decDigits v) : u = v := by
  rw [← numOf_digits u, ← numOf_digits v, h]

theorem itoa_inj {a b : Int} (h : Lib.itoa a = Lib.itoa b) : a = b := by
  unfold Lib.itoa at h
  by_cases ha : a < 0
  · rw [if_pos ha] at h
    by_cases hb : b < 0
    · rw [if_pos hb] at h
      have := digits_inj (List.cons.inj h).2
      omega
    · rw [if_neg hb] at h
      have := digits_all b.toNat 45 (by rw [← h]; simp)
      simp at this
  · rw [if_neg ha] at h
    by_cases hb : b < 0
    · rw [if_pos hb] at h
      have := digits_all a.toNat 45 (by rw [h]; simp)
      simp at this
    · rw [if_neg hb] at h
      have := digits_inj h
      omega

end Go.Proofs.YtodlejemkihjnaaDoor

/-
  Where tokens lie, and that a number's token is its own decimal numeral.
-/
namespace Go.Proofs.YtodlejemkihjnaaDoor
namespace Nu

/-- What a next token is. -/
structure Lies (g : Nat → Int) (n p : Nat) (t : Tok) (q p' : Nat) : Prop where
  at_ : t.at' = q
  fin_ : t.fin = p'
  lo : p ≤ q
  hi : p' ≤ n
  blank : ∀ i, p ≤ i → i < q → isBlank (g i) = true
  kinds : (t.kind = 3 ∧ q = n ∧ p' = n) ∨ (t.kind = 2 ∧ q < n ∧ g q = 10 ∧ p' = q + 1) ∨ (t.kind = 1 ∧ q < p' ∧ (∀ i, q ≤ i → i < p' → 48 ≤ g i ∧ g i ≤ 57) ∧ p' - q ≤ 9 ∧ (p' - q = 1 ∨ g q ≠ 48) ∧ t.num = val g q (p' - q))

theorem next_lies {g : Nat → Int} {n p p' : Nat} {t : Tok} (hp : p ≤ n) (h : next g n p = .ok (t, p')) : ∃ q, Lies g n p t q p' := by
  have hs := skip_is isBlank g n p hp
  by_cases h1 : skip isBlank g n p = n
  · rw [h1] at hs
    rw [next_end hs] at h
    cases h
    exact ⟨n, rfl, rfl, hp, Nat.le_refl _, hs.all, .inl ⟨rfl, rfl, rfl⟩⟩
  · generalize skip isBlank g n p = q at *
    have hlt : q < n := Nat.lt_of_le_of_ne hs.hi h1
    cases hd : isDigit (g q)
    · by_cases h10 : g q = 10
      · rw [next_line hs hlt h10] at h
        cases h
        exact ⟨q, rfl, rfl, hs.lo, hlt, hs.all, .inr (.inl ⟨rfl, hlt, h10, rfl⟩)⟩
      · rw [next_byte hs hlt hd h10] at h
        cases h
    · have hr := skip_is isDigit g n q hs.hi
      generalize skip isDigit g n q = r at *
      have hrl : q < r := by
        rcases Nat.lt_or_ge q r with h' | h'
        · exact h'
        · have e := Nat.le_antisymm hr.lo h'
          have := hr.stop (by rw [← e]; exact hlt)
          rw [← e, hd] at this
          cases this
      by_cases hb : 9 < r - q ∨ (1 < r - q ∧ g q = 48)
      · rw [next_bad hs hlt hd hr hb] at h
        cases h
      · rw [next_num hs hlt hd hr hb] at h
        cases h
        refine ⟨q, rfl, rfl, hs.lo, hr.hi, hs.all, .inr (.inr ⟨rfl, hrl, fun i h1 h2 => ?_, by omega, ?_, rfl⟩)⟩
        · have := hr.all i h1 h2
          simpa [isDigit] using this
        · rcases Nat.lt_or_ge 1 (p' - q) with h2 | h2
          · exact .inr (fun e => hb (.inr ⟨h2, e⟩))
          · exact .inl (by omega)

theorem next_end_num {g : Nat → Int} {n p p' : Nat} {t : Tok} (hp : p ≤ n) (h : next g n p = .ok (t, p')) (h3 : t.kind = 3) : t.num = 0 := by
  have hs := skip_is isBlank g n p hp
  by_cases h1 : skip isBlank g n p = n
  · rw [h1] at hs
    rw [next_end hs] at h
    cases h
    rfl
  · obtain ⟨q, hl⟩ := next_lies hp h
    rcases hl.kinds with ⟨_, hq, _⟩ | ⟨h2, _⟩ | ⟨h2, _⟩
    · exfalso
      apply h1
      have hsk : IsSkip isBlank g n p q := ⟨hl.lo, by omega, hl.blank, fun hlt => absurd hlt (by omega)⟩
      rw [← hsk.eq, hq]
    · rw [h2] at h3; cases h3
    · rw [h2] at h3; cases h3

/-- The bytes from q on, k of them. -/
def bytesAt (g : Nat → Int) (q : Nat) : Nat → List UInt8
  | 0 => []
  | k + 1 => bytesAt g q k ++ [UInt8.ofNat (g (q + k)).toNat]

theorem bytesAt_length (g : Nat → Int) (q : Nat) : ∀ k, (bytesAt g q k).length = k
  | 0 => rfl
  | k + 1 => by simp [bytesAt, bytesAt_length g q k]

theorem bytesAt_get (g : Nat → Int) (q : Nat) : ∀ (k i : Nat) (h : i < (bytesAt g q k).length), (bytesAt g q k)[i] = UInt8.ofNat (g (q + i)).toNat
  | 0, i, h => by simp [bytesAt] at h
  | k + 1, i, h => by
    have hl := bytesAt_length g q k
    simp only [bytesAt]
    by_cases hi : i < k
    · rw [List.getElem_append_left (by omega)]
      exact bytesAt_get g q k i (by omega)
    · have : i = k := by rw [bytesAt_length] at h; omega
      subst this
      rw [List.getElem_append_right (by omega)]
      simp [hl]

theorem val_pos (g : Nat → Int) (q : Nat) (hd : 48 < g q) : ∀ k, 0 < k → (∀ i, i < k → 48 ≤ g (q + i) ∧ g (q + i) ≤ 57) → 1 ≤ val g q k
  | 0, h, _ => by omega
  | 1, _, _ => by simp only [val]; rw [Nat.add_zero]; omega
  | k + 2, _, h => by
    have ih := val_pos g q hd (k + 1) (by omega) (fun i hi => h i (by omega))
    have := h (k + 1) (by omega)
    rw [val]
    omega

/-- A number's bytes are its decimal numeral. -/
theorem itoa_val (g : Nat → Int) (q : Nat) : ∀ k, 0 < k → (∀ i, i < k → 48 ≤ g (q + i) ∧ g (q + i) ≤ 57) → (k = 1 ∨ g q ≠ 48) → Lib.itoa (val g q k) = bytesAt g q k
  | 0, h, _, _ => by omega
  | k + 1, _, h, hz => by
    have hk := h k (by omega)
    have hvb := val_bound g q (k + 1) h
    obtain ⟨u, hu⟩ : ∃ u : Nat, val g q (k + 1) = u := ⟨(val g q (k + 1)).toNat, by omega⟩
    have hu' : (u : Int) = 10 * val g q k + (g (q + k) - 48) := by rw [← hu]; rfl
    rw [hu]
    have e0 : Lib.itoa (u : Int) = Lib.decDigits u := by unfold Lib.itoa; rw [if_neg (by omega)]; simp
    rw [e0]
    simp only [bytesAt]
    by_cases h0 : k = 0
    · subst h0
      simp only [val, bytesAt, List.nil_append] at hu' ⊢
      rw [Lib.decDigits_one (by omega)]
      congr 2
      omega
    · have hne : g q ≠ 48 := by
        rcases hz with h1 | h1
        · omega
        · exact h1
      have h00 := h 0 (by omega)
      rw [Nat.add_zero] at h00
      have hvp := val_pos g q (by omega) k (by omega) (fun i hi => h i (by omega))
      have ih := itoa_val g q k (by omega) (fun i hi => h i (by omega)) (.inr hne)
      obtain ⟨v, hv⟩ : ∃ v : Nat, val g q k = v := ⟨(val g q k).toNat, by omega⟩
      rw [hv] at ih hu' hvp
      have e1 : Lib.itoa (v : Int) = Lib.decDigits v := by unfold Lib.itoa; rw [if_neg (by omega)]; simp
      rw [e1] at ih
      have hd : u / 10 = v := by omega
      have hm : u % 10 = (g (q + k)).toNat - 48 := by omega
      rw [Lib.decDigits, dif_neg (by omega), hd, ih, hm]
      congr 3
      omega

/-- The end alone ends a scan that had room. -/
theorem scanF_end {g : Nat → Int} {n k p : Nat} {t : Tok} {ts : List Tok} (hp : p ≤ n) (hk : n - p < k) (h : scanF g n k p = .ok (t :: ts)) :
    ∃ p', next g n p = .ok (t, p') ∧ p' ≤ n ∧ ((t.kind = 3 ∧ ts = []) ∨ (t.kind ≠ 3 ∧ ∃ k', n - p' < k' ∧ scanF g n k' p' = .ok ts)) := by
  obtain ⟨k, rfl⟩ : ∃ k', k = k' + 1 := ⟨k - 1, by omega⟩
  cases hx : next g n p with
  | error x => rw [scanF_fault k hx] at h; cases h
  | ok y =>
    obtain ⟨u, p'⟩ := y
    have hm := next_moves hp hx
    by_cases h3 : u.kind = 3
    · rw [scanF_last k hx h3] at h
      cases h
      exact ⟨p', rfl, hm.1, .inl ⟨h3, rfl⟩⟩
    · rw [scanF_more k hx h3] at h
      cases hr : scanF g n k p' with
      | error x => rw [hr] at h; cases h
      | ok us =>
        rw [hr] at h
        simp only [pre, Except.ok.injEq, List.cons_append, List.nil_append, List.cons.injEq] at h
        obtain ⟨rfl, rfl⟩ := h
        have := hm.2 h3
        exact ⟨p', rfl, hm.1, .inr ⟨h3, k, by omega, hr⟩⟩

theorem scanF_nonempty {g : Nat → Int} {n k p : Nat} (hk : n - p < k) : scanF g n k p ≠ .ok [] := by
  intro h
  obtain ⟨k, rfl⟩ : ∃ k', k = k' + 1 := ⟨k - 1, by omega⟩
  cases hx : next g n p with
  | error x => rw [scanF_fault k hx] at h; cases h
  | ok y =>
    obtain ⟨u, p'⟩ := y
    by_cases h3 : u.kind = 3
    · rw [scanF_last k hx h3] at h; cases h
    · rw [scanF_more k hx h3] at h
      cases hr : scanF g n k p' with
      | error x => rw [hr] at h; cases h
      | ok us => rw [hr] at h; cases h

end Nu
end Go.Proofs.YtodlejemkihjnaaDoor
