/-
  Further blanks and line's ends: what they do to the tokens, the lines and the answer; with no program in it.
-/
import Derived.Test.YtkjmnfhpikoaaaaPa
namespace Go.Proofs.Ytkjmnfhpikoaaaa
namespace Pa
open Nu (Tok isBlank isDigit IsSkip)

def isGap (c : Int) : Prop := isBlank c = true ∨ c = 10

/-- h is g with more blanks behind blanks 32, more blanks and line's ends behind line's ends and at the front; the byte i has come to the place f i, the end to f n. -/
structure Spaced (g h : Nat → Int) (n m : Nat) (f : Nat → Nat) : Prop where
  byte : ∀ i, i < n → h (f i) = g i
  last : f n = m
  front : ∀ j, j < f 0 → isGap (h j)
  step : ∀ i, i < n → f i < f (i + 1)
  blank : ∀ i j, i < n → f i < j → j < f (i + 1) → isGap (h j) ∧ (g i = 32 ∨ g i = 10)
  still : ∀ i j, i < n → f i < j → j < f (i + 1) → g i = 32 → isBlank (h j) = true

/-- The tokens of the two texts, one by one; ls: a line begins here, and further line's ends may stand in the second. -/
inductive Rel (f : Nat → Nat) : Bool → List Tok → List Tok → Prop
  | nil (ls : Bool) : Rel f ls [] []
  | more {ts us : List Tok} {u : Tok} (h2 : u.kind = 2) (r : Rel f true ts us) : Rel f true ts (u :: us)
  | num {ls : Bool} {ts us : List Tok} {t u : Tok} (h1 : t.kind = 1) (h1' : u.kind = 1) (hn : u.num = t.num) (ha : 0 ≤ t.at' ∧ u.at' = (f t.at'.toNat : Int)) (r : Rel f false ts us) : Rel f ls (t :: ts) (u :: us)
  | line {ls : Bool} {ts us : List Tok} {t u : Tok} (h2 : t.kind = 2) (h2' : u.kind = 2) (r : Rel f true ts us) : Rel f ls (t :: ts) (u :: us)
  | fin {ls : Bool} {t u : Tok} (h3 : t.kind = 3) (h3' : u.kind = 3) : Rel f ls [t] [u]

def Match (f : Nat → Nat) (ls : Bool) : Except (Nat × Int) (List Tok) → Except (Nat × Int) (List Tok) → Prop
  | .error x, .error y => y = (f x.1, x.2)
  | .ok ts, .ok us => Rel f ls ts us
  | _, _ => False

section
variable {g h : Nat → Int} {n m : Nat} {f : Nat → Nat}

theorem Spaced.mono (s : Spaced g h n m f) : ∀ {i j : Nat}, i ≤ j → j ≤ n → f i + (j - i) ≤ f j
  | i, j, hij, hj => by
    induction j with
    | zero => have : i = 0 := by omega
              subst this; simp
    | succ j ih =>
      by_cases e : i = j + 1
      · subst e; simp
      · have := ih (by omega) (by omega)
        have := s.step j (by omega)
        omega

theorem Spaced.le (s : Spaced g h n m f) {i : Nat} (hi : i ≤ n) : f i ≤ m := by
  have := s.mono (i := i) (j := n) hi (Nat.le_refl _)
  rw [s.last] at this
  omega

/-- Behind what is neither a blank 32 nor a line's end nothing is put in. -/
theorem Spaced.next (s : Spaced g h n m f) {i : Nat} (hi : i < n) (h1 : g i ≠ 32) (h2 : g i ≠ 10) : f (i + 1) = f i + 1 := by
  have hs := s.step i hi
  by_cases e : f (i + 1) = f i + 1
  · exact e
  · have := (s.blank i (f i + 1) hi (by omega) (by omega)).2
    omega

/-- A run of digits stays a run. -/
theorem Spaced.run (s : Spaced g h n m f) {p : Nat} : ∀ (k : Nat), p + k ≤ n → (∀ i, p ≤ i → i < p + k → isDigit (g i) = true) → f (p + k) = f p + k
  | 0, _, _ => rfl
  | k + 1, hk, hd => by
    have ih := s.run k (by omega) (fun i h1 h2 => hd i h1 (by omega))
    have hdk := hd (p + k) (by omega) (by omega)
    simp [isDigit] at hdk
    rw [← Nat.add_assoc, s.next (i := p + k) (by omega) (by omega) (by omega), ih]
    omega

theorem blank_not {c : Int} (hb : isBlank c = true) : c ≠ 10 := by
  simp [isBlank] at hb
  omega

/-- Blanks of the first text, and what is put in between, are blanks of the second. -/
theorem Spaced.skip (s : Spaced g h n m f) {p p1 q : Nat} (hs : IsSkip isBlank g n p p1) (hq : q ≤ f p) (hb : ∀ j, q ≤ j → j < f p → isBlank (h j) = true) (hstop : p1 < n → isBlank (h (f p1)) = false) : IsSkip isBlank h m q (f p1) := by
  refine ⟨?_, s.le hs.hi, fun j h1 h2 => ?_, fun hlt => ?_⟩
  · have := s.mono hs.lo hs.hi
    omega
  · by_cases hj : j < f p
    · exact hb j h1 hj
    · -- it lies behind some blank i of the first text
      have key : ∀ k, p + k ≤ p1 → f p ≤ j → j < f (p + k) → isBlank (h j) = true := by
        intro k
        induction k with
        | zero => intro _ h3 h4; simp at h4; omega
        | succ k ih =>
          intro h3 h4 h5
          by_cases hjk : j < f (p + k)
          · exact ih (by omega) h4 hjk
          · have hhi := hs.hi
            have hblk := hs.all (p + k) (by omega) (by omega)
            by_cases e : j = f (p + k)
            · rw [e, s.byte (p + k) (by omega)]; exact hblk
            · have hx := s.blank (p + k) j (by omega) (by omega) (by rw [Nat.add_assoc]; exact h5)
              rcases hx.2 with h32 | h10
              · exact s.still (p + k) j (by omega) (by omega) (by rw [Nat.add_assoc]; exact h5) h32
              · exact absurd h10 (blank_not hblk)
      have hlo := hs.lo
      exact key (p1 - p) (by omega) (by omega) (by rw [show p + (p1 - p) = p1 by omega]; exact h2)
  · by_cases hp : p1 < n
    · exact hstop hp
    · have : p1 = n := by have := hs.hi; omega
      subst this
      rw [s.last] at hlt
      omega

theorem Match.more {r r' : Except (Nat × Int) (List Tok)} {u : Tok} (h2 : u.kind = 2) (hm : Match f true r r') : Match f true r (Nu.pre [u] r') := by
  cases r with
  | error x => cases r' with
    | error y => exact hm
    | ok us => cases hm
  | ok ts => cases r' with
    | error y => cases hm
    | ok us => exact Rel.more h2 hm

theorem Match.num {r r' : Except (Nat × Int) (List Tok)} {ls : Bool} {t u : Tok} (h1 : t.kind = 1) (h1' : u.kind = 1) (hn : u.num = t.num) (ha : 0 ≤ t.at' ∧ u.at' = (f t.at'.toNat : Int)) (hm : Match f false r r') : Match f ls (Nu.pre [t] r) (Nu.pre [u] r') := by
  cases r with
  | error x => cases r' with
    | error y => exact hm
    | ok us => cases hm
  | ok ts => cases r' with
    | error y => cases hm
    | ok us => exact Rel.num h1 h1' hn ha hm

theorem Match.line {r r' : Except (Nat × Int) (List Tok)} {ls : Bool} {t u : Tok} (h2 : t.kind = 2) (h2' : u.kind = 2) (hm : Match f true r r') : Match f ls (Nu.pre [t] r) (Nu.pre [u] r') := by
  cases r with
  | error x => cases r' with
    | error y => exact hm
    | ok us => cases hm
  | ok ts => cases r' with
    | error y => cases hm
    | ok us => exact Rel.line h2 h2' hm

/-- The tokens of the two texts are the same but for places and further line's ends. -/
theorem sim_scan (s : Spaced g h n m f) : ∀ (k' k p q : Nat) (ls : Bool), p ≤ n → q ≤ f p → n - p < k → m - q < k' → (∀ j, q ≤ j → j < f p → isGap (h j)) → (ls = true ∨ ∀ j, q ≤ j → j < f p → isBlank (h j) = true) →
    Match f ls (Nu.scanF g n k p) (Nu.scanF h m k' q)
  | 0, k, p, q, ls, hp, hq, hk, hk', _, _ => by omega
  | k' + 1, k, p, q, ls, hp, hq, hk, hk', hgap, hls => by
    have hfp := s.le hp
    have hw := Nu.skip_is isBlank h m q (by omega)
    by_cases hr : Nu.skip isBlank h m q < f p
    · -- a further line's end
      have hnb := hw.stop (by omega)
      have hlo := hw.lo
      have h10 : h (Nu.skip isBlank h m q) = 10 := by
        rcases hgap _ hw.lo hr with hb | hb
        · rw [hnb] at hb; cases hb
        · exact hb
      have hlt : ls = true := by
        rcases hls with hl | hl
        · exact hl
        · rw [hl _ hw.lo hr] at hnb; cases hnb
      subst hlt
      rw [Nu.scanF_more k' (Nu.next_line hw (by omega) h10) (by simp)]
      refine Match.more rfl (sim_scan s k' k p _ true hp (by omega) hk (by omega) (fun j h1 h2 => hgap j (by omega) h2) (.inl rfl))
    · have hbl : ∀ j, q ≤ j → j < f p → isBlank (h j) = true := fun j h1 h2 => hw.all j h1 (by omega)
      obtain ⟨k, rfl⟩ : ∃ k0, k = k0 + 1 := ⟨k - 1, by omega⟩
      have hs := Nu.skip_is isBlank g n p hp
      obtain ⟨p1, hp1⟩ : ∃ p1, p1 = Nu.skip isBlank g n p := ⟨_, rfl⟩
      rw [← hp1] at hs
      have hlo := hs.lo
      have hhi := hs.hi
      have hws : IsSkip isBlank h m q (f p1) := s.skip hs hq hbl (fun hlt => by rw [s.byte p1 hlt]; exact hs.stop hlt)
      by_cases he : p1 = n
      · rw [he] at hs hws
        rw [s.last] at hws
        rw [Nu.scanF_last k (Nu.next_end hs) rfl, Nu.scanF_last k' (Nu.next_end hws) rfl]
        exact Rel.fin rfl rfl
      · have hlt : p1 < n := by omega
        have hfl : f p1 < m := by have := s.mono (i := p1) (j := n) (by omega) (Nat.le_refl _); rw [s.last] at this; omega
        have hby := s.byte p1 hlt
        have hfq := hws.lo
        cases hd : isDigit (g p1)
        · by_cases h10 : g p1 = 10
          · rw [Nu.scanF_more k (Nu.next_line hs hlt h10) (by simp), Nu.scanF_more k' (Nu.next_line hws hfl (by rw [hby]; exact h10)) (by simp)]
            have hst := s.step p1 hlt
            refine Match.line rfl rfl (sim_scan s k' k (p1 + 1) (f p1 + 1) true (by omega) (by omega) (by omega) (by omega) (fun j h1 h2 => (s.blank p1 j hlt (by omega) h2).1) (.inl rfl))
          · rw [Nu.scanF_fault k (Nu.next_byte hs hlt hd h10), Nu.scanF_fault k' (Nu.next_byte hws hfl (by rw [hby]; exact hd) (by rw [hby]; exact h10))]
            rfl
        · have hdg := Nu.skip_is isDigit g n p1 hhi
          obtain ⟨p2, hp2⟩ : ∃ p2, p2 = Nu.skip isDigit g n p1 := ⟨_, rfl⟩
          rw [← hp2] at hdg
          have hlo2 := hdg.lo
          have hhi2 := hdg.hi
          have hrun : ∀ i, i ≤ p2 - p1 → f (p1 + i) = f p1 + i := fun i hi => s.run i (by omega) (fun j h1 h2 => hdg.all j h1 (by omega))
          have hf2 : f p2 = f p1 + (p2 - p1) := by have := hrun (p2 - p1) (Nat.le_refl _); rwa [show p1 + (p2 - p1) = p2 by omega] at this
          have hsame : ∀ i, i < p2 - p1 → h (f p1 + i) = g (p1 + i) := fun i hi => by rw [← hrun i (by omega)]; exact s.byte _ (by omega)
          have hdw : IsSkip isDigit h m (f p1) (f p2) := by
            refine ⟨by omega, s.le hhi2, fun j h1 h2 => ?_, fun hlt2 => ?_⟩
            · have := hsame (j - f p1) (by omega)
              rw [show f p1 + (j - f p1) = j by omega] at this
              rw [this]
              exact hdg.all _ (by omega) (by omega)
            · have hp2n : p2 < n := by
                rcases Nat.lt_or_ge p2 n with h' | h'
                · exact h'
                · have : p2 = n := by omega
                  rw [this, s.last] at hlt2
                  omega
              rw [s.byte p2 hp2n]
              exact hdg.stop hp2n
          have hdiff : f p2 - f p1 = p2 - p1 := by omega
          have hpos : p1 < p2 := by
            rcases Nat.lt_or_ge p1 p2 with h' | h'
            · exact h'
            · have e : p2 = p1 := by omega
              have := hdg.stop (by omega)
              rw [e, hd] at this
              cases this
          by_cases hb : 9 < p2 - p1 ∨ (1 < p2 - p1 ∧ g p1 = 48)
          · rw [Nu.scanF_fault k (Nu.next_bad hs hlt hd hdg hb), Nu.scanF_fault k' (Nu.next_bad hws hfl (by rw [hby]; exact hd) hdw (by rw [hdiff, hby]; exact hb))]
            rfl
          · rw [Nu.scanF_more k (Nu.next_num hs hlt hd hdg hb) (by simp), Nu.scanF_more k' (Nu.next_num hws hfl (by rw [hby]; exact hd) hdw (by rw [hdiff, hby]; exact hb)) (by simp)]
            refine Match.num rfl rfl ?_ ⟨by simp, by simp⟩ (sim_scan s k' k p2 (f p2) false hhi2 (Nat.le_refl _) (by omega) (by omega) (fun j h1 h2 => by omega) (.inr (fun j h1 h2 => by omega)))
            dsimp only
            rw [hdiff]
            exact Nu.val_congr _ (fun i hi => hsame i hi)

end

/-- Two lines, token by token. -/
inductive LRel (f : Nat → Nat) : List Tok → List Tok → Prop
  | nil : LRel f [] []
  | cons {l l' : List Tok} {t u : Tok} (hn : u.num = t.num) (ha : 0 ≤ t.at' ∧ u.at' = (f t.at'.toNat : Int)) (r : LRel f l l') : LRel f (t :: l) (u :: l')

theorem LRel.snoc {f : Nat → Nat} {l l' : List Tok} {t u : Tok} (r : LRel f l l') (hn : u.num = t.num) (ha : 0 ≤ t.at' ∧ u.at' = (f t.at'.toNat : Int)) : LRel f (l ++ [t]) (l' ++ [u]) := by
  induction r with
  | nil => exact .cons hn ha .nil
  | cons hn' ha' _ ih => exact .cons hn' ha' ih

/-- The lines of two texts, one by one. -/
inductive LLRel (f : Nat → Nat) : List (List Tok) → List (List Tok) → Prop
  | nil : LLRel f [] []
  | cons {l l' : List Tok} {ls ls' : List (List Tok)} (hne : l ≠ []) (r : LRel f l l') (rs : LLRel f ls ls') : LLRel f (l :: ls) (l' :: ls')

theorem Rel.lns {f : Nat → Nat} {b : Bool} {ts us : List Tok} (r : Rel f b ts us) : ∀ {cur cur' : List Tok}, LRel f cur cur' → (b = true → cur = []) → LLRel f (Pa.lns cur ts) (Pa.lns cur' us) := by
  induction r with
  | nil ls => intro cur cur' _ _; exact .nil
  | more h2 r ih =>
    intro cur cur' hr hb
    have hc := hb rfl
    subst hc
    cases hr
    rw [lns_empty (t := _) (by omega)]
    exact ih .nil (fun _ => rfl)
  | num h1 h1' hn ha r ih =>
    intro cur cur' hr hb
    rw [lns_num h1, lns_num h1']
    exact ih (hr.snoc hn ha) (fun h => by cases h)
  | line h2 h2' r ih =>
    intro cur cur' hr hb
    cases hr with
    | nil =>
      rw [lns_empty (by omega), lns_empty (by omega)]
      exact ih .nil (fun _ => rfl)
    | cons hn ha r0 =>
      rw [lns_line (by omega) (by simp), lns_line (by omega) (by simp)]
      exact .cons (by simp) (.cons hn ha r0) (ih .nil (fun _ => rfl))
  | fin h3 h3' =>
    intro cur cur' hr hb
    cases hr with
    | nil =>
      rw [lns_empty (by omega), lns_empty (by omega)]
      exact .nil
    | cons hn ha r0 =>
      rw [lns_line (by omega) (by simp), lns_line (by omega) (by simp)]
      exact .cons (by simp) (.cons hn ha r0) .nil

/-- An answer, its place moved. -/
def moved (f : Nat → Nat) : Except (Int × Int) St → Except (Int × Int) St
  | .error x => .error (x.1, (f x.2.toNat : Int))
  | .ok s => .ok s

theorem LRel.length {f : Nat → Nat} {l l' : List Tok} (r : LRel f l l') : l'.length = l.length := by
  induction r with
  | nil => rfl
  | cons _ _ _ ih => simp [ih]

theorem LRel.fst {f : Nat → Nat} {l l' : List Tok} (r : LRel f l l') (hne : l ≠ []) : (tk l' 0).num = (tk l 0).num ∧ (tk l' 0).at' = (f (tk l 0).at'.toNat : Int) := by
  cases r with
  | nil => exact absurd rfl hne
  | cons hn ha r => exact ⟨by simpa [tk] using hn, by simpa [tk] using ha.2⟩

theorem LRel.snd {f : Nat → Nat} {l l' : List Tok} (r : LRel f l l') (h2 : l.length = 2) : (tk l' 1).num = (tk l 1).num ∧ (tk l' 1).at' = (f (tk l 1).at'.toNat : Int) := by
  cases r with
  | nil => simp at h2
  | cons hn ha r => cases r with
    | nil => simp at h2
    | cons hn ha r => exact ⟨by simpa [tk] using hn, by simpa [tk] using ha.2⟩

theorem line_moved {f : Nat → Nat} {l l' : List Tok} (r : LRel f l l') (hne : l ≠ []) (s : St) : line s l' = moved f (line s l) := by
  have hl := r.length
  have h0 := r.fst hne
  unfold line
  cases s.begun
  · simp only [Bool.false_eq_true, if_false]
    unfold header
    by_cases h2 : l.length = 2
    · have h1 := r.snd h2
      rw [hl, h0.1, h0.2, h1.1, h1.2]
      simp only [h2, ne_eq, not_true, if_false]
      by_cases hn : 1048576 < (tk l 0).num
      · simp [hn, moved]
      · by_cases hm : 2097152 < (tk l 1).num
        · simp [hn, hm, moved]
        · simp [hn, hm, moved]
    · rw [hl, h0.2, if_pos h2, if_pos h2]
      rfl
  · simp only [if_true]
    unfold edge
    by_cases hm : (s.pairs.length : Int) = s.m
    · rw [if_pos hm, if_pos hm, h0.2]
      rfl
    · rw [if_neg hm, if_neg hm]
      by_cases h2 : l.length = 2
      · have h1 := r.snd h2
        rw [hl, h0.1, h0.2, h1.1, h1.2]
        simp only [h2, ne_eq, not_true, if_false]
        by_cases hu : s.n ≤ (tk l 0).num
        · simp [hu, moved]
        · by_cases hv : s.n ≤ (tk l 1).num
          · simp [hu, hv, moved]
          · simp [hu, hv, moved]
      · rw [hl, h0.2, if_pos h2, if_pos h2]
        rfl

theorem go_moved {f : Nat → Nat} {ls ls' : List (List Tok)} (r : LLRel f ls ls') (n : Nat) : ∀ (s : St), go s ls' (f n : Int) = moved f (go s ls (n : Int)) := by
  induction r with
  | nil =>
    intro s
    rw [go_nil, go_nil]
    unfold fin
    split
    · simp [moved]
    · split
      · simp [moved]
      · rfl
  | @cons l l' ls ls' hne r rs ih =>
    intro s
    have hm := line_moved r hne s
    cases hl : line s l with
    | error x =>
      rw [hl] at hm
      rw [go_error hl, go_error hm]
      rfl
    | ok s' =>
      rw [hl] at hm
      rw [go_ok hl, go_ok hm, ih]

/-- What is read of the spaced text: the same, a fault's place moved with its byte. -/
theorem raw_spaced {g h : Nat → Int} {n m : Nat} {f : Nat → Nat} (s : Spaced g h n m f) (hn : n ≤ 16777216) (hm : m ≤ 16777216) : raw h m = moved f (raw g n) := by
  have hsim := sim_scan s (m + 1) (n + 1) 0 0 true (Nat.zero_le _) (Nat.zero_le _) (by omega) (by omega) (fun j _ h2 => s.front j h2) (.inl rfl)
  have e1 : Nu.scanF g n (n + 1) 0 = Nu.scan g n := rfl
  have e2 : Nu.scanF h m (m + 1) 0 = Nu.scan h m := rfl
  rw [e1, e2] at hsim
  unfold raw
  rw [if_neg (by omega), if_neg (by omega)]
  cases hx : Nu.scan g n with
  | error x =>
    cases hy : Nu.scan h m with
    | error y =>
      rw [hx, hy] at hsim
      have hxy : y = (f x.1, x.2) := hsim
      subst hxy
      simp [moved]
    | ok us => rw [hx, hy] at hsim; cases hsim
  | ok ts =>
    cases hy : Nu.scan h m with
    | error y => rw [hx, hy] at hsim; cases hsim
    | ok us =>
      rw [hx, hy] at hsim
      have hr : Rel f true ts us := hsim
      have hll := hr.lns (cur := []) (cur' := []) .nil (fun _ => rfl)
      have := go_moved hll n s0
      rw [s.last] at this
      exact this

end Pa
end Go.Proofs.Ytkjmnfhpikoaaaa
