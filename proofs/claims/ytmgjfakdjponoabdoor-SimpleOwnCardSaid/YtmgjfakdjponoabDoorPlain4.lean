/-
  The scan of two texts with a line's end between, out of the scans of the two.
-/
import Derived.Test.YtmgjfakdjponoabDoorPlain3
namespace Go.Proofs.YtmgjfakdjponoabDoor
namespace Nu

/-- How much may come does not matter, if it is enough. -/
theorem scanF_fuel {g : Nat → Int} {n : Nat} : ∀ (k k' p : Nat), p ≤ n → n - p < k → n - p < k' → scanF g n k p = scanF g n k' p
  | 0, _, p, _, h, _ => by omega
  | _ + 1, 0, p, _, _, h => by omega
  | k + 1, k' + 1, p, hp, h, h' => by
    cases hx : next g n p with
    | error x => rw [scanF_fault k hx, scanF_fault k' hx]
    | ok y =>
      obtain ⟨u, p'⟩ := y
      have hm := next_moves hp hx
      by_cases h3 : u.kind = 3
      · rw [scanF_last k hx h3, scanF_last k' hx h3]
      · have := hm.2 h3
        rw [scanF_more k hx h3, scanF_more k' hx h3, scanF_fuel k k' p' hm.1 (by omega) (by omega)]

/-- g is ga up to na, then a line's end, then gb. -/
structure Joined (g ga gb : Nat → Int) (n na nb : Nat) : Prop where
  size : n = na + 1 + nb
  fst : ∀ i, i < na → g i = ga i
  mid : g na = 10
  snd : ∀ i, i < nb → g (na + 1 + i) = gb i

section
variable {g ga gb : Nat → Int} {n na nb : Nat}

theorem IsSkip.fst (j : Joined g ga gb n na nb) {f : Int → Bool} (h10 : f 10 = false) {p q : Nat} (h : IsSkip f ga na p q) : IsSkip f g n p q := by
  have hs := j.size
  have hh := h.hi
  refine ⟨h.lo, by omega, fun i h1 h2 => ?_, fun _ => ?_⟩
  · rw [j.fst i (by omega)]; exact h.all i h1 h2
  · by_cases hq : q < na
    · rw [j.fst q hq]; exact h.stop hq
    · have : q = na := by omega
      subst this
      rw [j.mid]; exact h10

theorem IsSkip.snd (j : Joined g ga gb n na nb) {f : Int → Bool} {p q : Nat} (h : IsSkip f gb nb p q) : IsSkip f g n (na + 1 + p) (na + 1 + q) := by
  have hs := j.size
  have hh := h.hi
  have hl := h.lo
  refine ⟨by omega, by omega, fun i h1 h2 => ?_, fun hn => ?_⟩
  · have e : i = na + 1 + (i - (na + 1)) := by omega
    rw [e, j.snd (i - (na + 1)) (by omega)]; exact h.all _ (by omega) (by omega)
  · rw [j.snd q (by omega)]; exact h.stop (by omega)

theorem val_congr {g g' : Nat → Int} {q q' : Nat} : ∀ k, (∀ i, i < k → g (q + i) = g' (q' + i)) → val g q k = val g' q' k
  | 0, _ => rfl
  | k + 1, h => by simp only [val]; rw [val_congr k (fun i hi => h i (by omega)), h k (by omega)]

theorem blank10 : isBlank 10 = false := by decide
theorem digit10 : isDigit 10 = false := by decide

/-- In the first text the next token is its own, but for its end: there stands the line's end. -/
theorem next_fst (j : Joined g ga gb n na nb) {p : Nat} (hp : p ≤ na) :
    (next ga na p = .ok (⟨3, na, na, 0⟩, na) ∧ next g n p = .ok (⟨2, na, (na : Int) + 1, 0⟩, na + 1)) ∨
    (next g n p = next ga na p ∧ ∀ t p', next ga na p = .ok (t, p') → t.kind ≠ 3) := by
  have hs := skip_is isBlank ga na p hp
  have hs' := hs.fst j blank10
  have hsz := j.size
  by_cases h1 : skip isBlank ga na p = na
  · rw [h1] at hs hs'
    exact .inl ⟨next_end hs, next_line hs' (by omega) j.mid⟩
  · right
    generalize hq : skip isBlank ga na p = q at *
    have hlt : q < na := Nat.lt_of_le_of_ne hs.hi h1
    have hgq := j.fst q hlt
    cases hd : isDigit (ga q)
    · by_cases h10 : ga q = 10
      · rw [next_line hs hlt h10, next_line hs' (by omega) (by rw [hgq]; exact h10)]
        exact ⟨rfl, fun t p' h => by cases h; simp⟩
      · rw [next_byte hs hlt hd h10, next_byte hs' (by omega) (by rw [hgq]; exact hd) (by rw [hgq]; exact h10)]
        exact ⟨rfl, fun t p' h => by cases h⟩
    · have hr := skip_is isDigit ga na q hs.hi
      have hr' := hr.fst j digit10
      generalize skip isDigit ga na q = r at *
      have hrh := hr.hi
      by_cases hb : 9 < r - q ∨ (1 < r - q ∧ ga q = 48)
      · rw [next_bad hs hlt hd hr hb, next_bad hs' (by omega) (by rw [hgq]; exact hd) hr' (by rw [hgq]; exact hb)]
        exact ⟨rfl, fun t p' h => by cases h⟩
      · rw [next_num hs hlt hd hr hb, next_num hs' (by omega) (by rw [hgq]; exact hd) hr' (by rw [hgq]; exact hb)]
        rw [val_congr (g := g) (g' := ga) (q := q) (q' := q) (r - q) (fun i hi => j.fst (q + i) (by omega))]
        exact ⟨rfl, fun t p' h => by cases h; simp⟩

def Tok.on (m : Nat) (t : Tok) : Tok := ⟨t.kind, t.at' + m, t.fin + m, t.num⟩

/-- Moved on by m. -/
def on (m : Nat) : Except (Nat × Int) (List Tok) → Except (Nat × Int) (List Tok)
  | .error x => .error (x.1 + m, x.2)
  | .ok ts => .ok (ts.map (Tok.on m))

/-- In the second text the next token is its own, moved on. -/
theorem next_snd (j : Joined g ga gb n na nb) {p : Nat} (hp : p ≤ nb) :
    (∀ t p', next gb nb p = .ok (t, p') → next g n (na + 1 + p) = .ok (t.on (na + 1), na + 1 + p')) ∧
    (∀ x, next gb nb p = .error x → next g n (na + 1 + p) = .error (x.1 + (na + 1), x.2)) := by
  have hs := skip_is isBlank gb nb p hp
  have hs' := hs.snd j
  have hsz := j.size
  by_cases h1 : skip isBlank gb nb p = nb
  · rw [h1] at hs hs'
    have e : na + 1 + nb = n := by omega
    rw [e] at hs'
    rw [next_end hs, next_end hs']
    refine ⟨fun t p' h => ?_, fun x h => by cases h⟩
    cases h
    simp only [Tok.on, Except.ok.injEq, Prod.mk.injEq, Tok.mk.injEq, true_and, and_true]
    omega
  · generalize hq : skip isBlank gb nb p = q at *
    have hlt : q < nb := Nat.lt_of_le_of_ne hs.hi h1
    have hgq := j.snd q hlt
    cases hd : isDigit (gb q)
    · by_cases h10 : gb q = 10
      · rw [next_line hs hlt h10, next_line hs' (by omega) (by rw [hgq]; exact h10)]
        refine ⟨fun t p' h => ?_, fun x h => by cases h⟩
        cases h
        simp only [Tok.on, Except.ok.injEq, Prod.mk.injEq, Tok.mk.injEq, true_and, and_true]
        omega
      · rw [next_byte hs hlt hd h10, next_byte hs' (by omega) (by rw [hgq]; exact hd) (by rw [hgq]; exact h10)]
        refine ⟨fun t p' h => (by cases h), fun x h => ?_⟩
        cases h
        rw [Nat.add_comm]
    · have hr := skip_is isDigit gb nb q hs.hi
      have hr' := hr.snd j
      generalize skip isDigit gb nb q = r at *
      have hrh := hr.hi
      have hrl := hr.lo
      have e : na + 1 + r - (na + 1 + q) = r - q := by omega
      by_cases hb : 9 < r - q ∨ (1 < r - q ∧ gb q = 48)
      · rw [next_bad hs hlt hd hr hb, next_bad hs' (by omega) (by rw [hgq]; exact hd) hr' (by rw [hgq, e]; exact hb)]
        refine ⟨fun t p' h => (by cases h), fun x h => ?_⟩
        cases h
        rw [Nat.add_comm]
      · rw [next_num hs hlt hd hr hb, next_num hs' (by omega) (by rw [hgq]; exact hd) hr' (by rw [hgq, e]; exact hb), e]
        rw [val_congr (g := g) (g' := gb) (q := na + 1 + q) (q' := q) (r - q) (fun i hi => by rw [show na + 1 + q + i = na + 1 + (q + i) by omega]; exact j.snd (q + i) (by omega))]
        refine ⟨fun t p' h => ?_, fun x h => by cases h⟩
        cases h
        simp only [Tok.on, Except.ok.injEq, Prod.mk.injEq, Tok.mk.injEq, true_and, and_true]
        omega

theorem scanF_snd (j : Joined g ga gb n na nb) : ∀ (k p : Nat), p ≤ nb → scanF g n k (na + 1 + p) = on (na + 1) (scanF gb nb k p)
  | 0, p, _ => by simp [scanF, on]
  | k + 1, p, hp => by
    obtain ⟨h1, h2⟩ := next_snd j hp
    cases hx : next gb nb p with
    | error x => rw [scanF_fault k hx, scanF_fault k (h2 x hx)]; rfl
    | ok y =>
      obtain ⟨u, p'⟩ := y
      have hm := next_moves hp hx
      by_cases h3 : u.kind = 3
      · rw [scanF_last k hx h3, scanF_last k (h1 u p' hx) h3]; rfl
      · rw [scanF_more k hx h3, scanF_more k (h1 u p' hx) h3, scanF_snd j k p' hm.1]
        cases scanF gb nb k p' <;> simp [pre, on]

/-- The first text: its fault is the fault; else its tokens without the end, the line's end, and what follows. -/
theorem scanF_fst (j : Joined g ga gb n na nb) : ∀ (k p : Nat), p ≤ na → na - p < k →
    (∀ x, scanF ga na k p = .error x → scanF g n (k + 1 + nb) p = .error x) ∧
    (∀ ts, scanF ga na k p = .ok ts → ∃ us k', ts = us ++ [⟨3, na, na, 0⟩] ∧ nb < k' ∧ scanF g n (k + 1 + nb) p = pre (us ++ [⟨2, na, (na : Int) + 1, 0⟩]) (scanF g n k' (na + 1)))
  | 0, p, _, h => by omega
  | k + 1, p, hp, hk => by
    rcases next_fst j hp with ⟨h1, h2⟩ | ⟨h1, h2⟩
    · rw [scanF_last k h1 rfl]
      refine ⟨fun x h => (by cases h), fun ts h => ?_⟩
      cases h
      refine ⟨[], k + 1 + nb, rfl, by omega, ?_⟩
      rw [show k + 1 + 1 + nb = (k + 1 + nb) + 1 by omega, scanF_more _ h2 (by simp)]
      rfl
    · cases hx : next ga na p with
      | error x =>
        rw [scanF_fault k hx, show k + 1 + 1 + nb = (k + 1 + nb) + 1 by omega, scanF_fault _ (h1.trans hx)]
        exact ⟨fun y h => h, fun ts h => by cases h⟩
      | ok y =>
        obtain ⟨u, p'⟩ := y
        have h3 := h2 u p' hx
        have hm := next_moves hp hx
        have hmp := hm.2 h3
        obtain ⟨i1, i2⟩ := scanF_fst j k p' hm.1 (by omega)
        rw [scanF_more k hx h3, show k + 1 + 1 + nb = (k + 1 + nb) + 1 by omega, scanF_more _ (h1.trans hx) h3]
        cases hr : scanF ga na k p' with
        | error x =>
          rw [i1 x hr]
          exact ⟨fun y h => h, fun ts h => by cases h⟩
        | ok us =>
          obtain ⟨vs, k', e1, e2, e3⟩ := i2 us hr
          refine ⟨fun y h => (by cases h), fun ts h => ?_⟩
          cases h
          refine ⟨u :: vs, k', by rw [e1]; rfl, e2, ?_⟩
          rw [e3, pre_pre]
          rfl

/-- Two texts with a line's end between. -/
theorem scan_joined (j : Joined g ga gb n na nb) :
    (∀ x, scan ga na = .error x → scan g n = .error x) ∧
    (∀ ts, scan ga na = .ok ts → ∃ us, ts = us ++ [⟨3, na, na, 0⟩] ∧ scan g n = pre (us ++ [⟨2, na, (na : Int) + 1, 0⟩]) (on (na + 1) (scan gb nb))) := by
  have hsz := j.size
  obtain ⟨h1, h2⟩ := scanF_fst j (na + 1) 0 (Nat.zero_le _) (by omega)
  have e : scanF g n (na + 1 + 1 + nb) 0 = scan g n := scanF_fuel _ _ 0 (Nat.zero_le _) (by omega) (by omega)
  rw [e] at h1 h2
  refine ⟨h1, fun ts h => ?_⟩
  obtain ⟨us, k', e1, e2, e3⟩ := h2 ts h
  refine ⟨us, e1, ?_⟩
  rw [e3]
  have e4 := scanF_snd j k' 0 (Nat.zero_le _)
  rw [Nat.add_zero] at e4
  rw [e4]
  have e5 : scanF gb nb k' 0 = scan gb nb := scanF_fuel _ _ 0 (Nat.zero_le _) (by omega) (by omega)
  rw [e5]

end
end Nu
end Go.Proofs.YtmgjfakdjponoabDoor
