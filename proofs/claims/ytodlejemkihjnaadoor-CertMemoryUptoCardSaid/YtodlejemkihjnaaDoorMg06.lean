import Derived.Test.YtodlejemkihjnaaDoorMg05
/-
  The scan of a line of numbers: each number's token, one behind the other, a line's end, the end.
-/
namespace Go.Proofs.YtodlejemkihjnaaDoor

/-- The first k numbers as text, blanks between. -/
def rowTo (z : Nat → Int) : Nat → List UInt8
  | 0 => []
  | k + 1 => (if 0 < k then rowTo z k ++ [32] else rowTo z k) ++ Lib.itoa (z k)

namespace Nu

/-- The bytes of a list, as numbers. -/
def ofBytes (l : List UInt8) : Nat → Int := fun i => ((l.getD i 0).toNat : Int)

theorem ofBytes_left (a b : List UInt8) (i : Nat) (h : i < a.length) : ofBytes (a ++ b) i = ofBytes a i := by
  simp [ofBytes, List.getElem?_append_left h]

theorem ofBytes_right (a b : List UInt8) (i : Nat) : ofBytes (a ++ b) (a.length + i) = ofBytes b i := by
  simp [ofBytes, List.getElem?_append_right (Nat.le_add_right a.length i)]

theorem val_numOf_aux (g : Nat → Int) (q : Nat) : ∀ (k : Nat) (l : List UInt8), l.length = k → (∀ c ∈ l, 48 ≤ c.toNat ∧ c.toNat ≤ 57) → (∀ i, i < l.length → g (q + i) = ofBytes l i) → val g q l.length = numOf l := by
  intro k
  induction k with
  | zero =>
    intro l hl _ _
    have : l = [] := List.length_eq_zero_iff.1 hl
    subst this
    rfl
  | succ k ih' =>
    intro l' hl hd hg
    obtain ⟨l, c, rfl⟩ : ∃ l c, l' = l ++ [c] := ⟨l'.dropLast, l'.getLast (by intro e; rw [e] at hl; cases hl), (List.dropLast_concat_getLast _).symm⟩
    have ih := ih' l (by simpa using hl)
    have h1 := ih (fun c' hc' => hd c' (by simp [hc'])) (fun i hi => by rw [hg i (by simp; omega), ofBytes_left _ _ _ hi])
    have h2 := hg l.length (by simp)
    have h3 : ofBytes (l ++ [c]) l.length = (c.toNat : Int) := by
      have := ofBytes_right l [c] 0
      rw [Nat.add_zero] at this
      rw [this]; rfl
    have h4 := hd c (by simp)
    rw [List.length_append, List.length_singleton, numOf_snoc]
    simp only [val]
    rw [h1, h2, h3]
    omega

theorem val_numOf (g : Nat → Int) (q : Nat) (l : List UInt8) (h1 : ∀ c ∈ l, 48 ≤ c.toNat ∧ c.toNat ≤ 57) (h2 : ∀ i, i < l.length → g (q + i) = ofBytes l i) : val g q l.length = numOf l := val_numOf_aux g q l.length l rfl h1 h2

theorem digits_head {u : Nat} (h : 0 < u) : ofBytes (Lib.decDigits u) 0 ≠ 48 := by
  induction u using Nat.strongRecOn with
  | _ u ih =>
    by_cases h9 : u < 10
    · rw [Lib.decDigits_one h9]
      simp [ofBytes]
      omega
    · have hne : 0 < (Lib.decDigits (u / 10)).length := by
        rw [Lib.decDigits_length]
        unfold Lib.nDigits
        split <;> omega
      rw [Lib.decDigits, dif_neg h9, ofBytes_left _ _ _ hne]
      exact ih (u / 10) (by omega) (by omega)

theorem nDigits_le : ∀ (k u : Nat), u < 10 ^ (k + 1) → Lib.nDigits u ≤ k + 1
  | 0, u, h => by unfold Lib.nDigits; rw [dif_pos (by omega)]; exact Nat.le_refl _
  | k + 1, u, h => by
    unfold Lib.nDigits
    split
    · omega
    · have := nDigits_le k (u / 10) (by rw [Nat.pow_succ] at h; omega)
      omega

theorem digits_short {u : Nat} (h : u ≤ 999999999) : (Lib.decDigits u).length ≤ 9 := by
  rw [Lib.decDigits_length]
  exact nDigits_le 8 u (by omega)

theorem digits_some (u : Nat) : 0 < (Lib.decDigits u).length := by
  rw [Lib.decDigits_length]
  unfold Lib.nDigits
  split <;> omega

theorem itoa_small {x : Int} (h0 : 0 ≤ x) : Lib.itoa x = Lib.decDigits x.toNat := by unfold Lib.itoa; rw [if_neg (by omega)]

/-- Where the k-th number begins. -/
def startOf (z : Nat → Int) (k : Nat) : Nat := (rowTo z k).length + if 0 < k then 1 else 0

theorem rowTo_succ (z : Nat → Int) (k : Nat) : (rowTo z (k + 1)).length = startOf z k + (Lib.itoa (z k)).length := by
  simp only [rowTo, startOf]
  by_cases h : 0 < k
  · rw [if_pos h, if_pos h]; simp; omega
  · rw [if_neg h, if_neg h]; simp

/-- The line's text begins with the first k numbers. -/
theorem row_prefix (z : Nat → Int) : ∀ (n k : Nat), k ≤ n → ∃ r, rowTo z n = rowTo z k ++ r
  | n, k, h => by
    induction n with
    | zero => have : k = 0 := by omega
              subst this; exact ⟨[], by simp⟩
    | succ n ih =>
      by_cases e : k = n + 1
      · subst e; exact ⟨[], by simp⟩
      · obtain ⟨r, hr⟩ := ih (by omega)
        refine ⟨(if 0 < n then r ++ [32] else r) ++ Lib.itoa (z n), ?_⟩
        simp only [rowTo]
        by_cases h0 : 0 < n
        · rw [if_pos h0, if_pos h0, hr]; simp
        · rw [if_neg h0, if_neg h0, hr]; simp

section
variable {z : Nat → Int} {n : Nat}

/-- The whole line. -/
def whole (z : Nat → Int) (n : Nat) : List UInt8 := rowTo z n ++ [10]

theorem whole_at {k : Nat} (hk : k ≤ n) (i : Nat) (hi : i < (rowTo z k).length) : ofBytes (whole z n) i = ofBytes (rowTo z k) i := by
  obtain ⟨r, hr⟩ := row_prefix z n k hk
  rw [whole, hr, List.append_assoc, ofBytes_left _ _ _ hi]

/-- Behind the first k numbers stands a blank, or the line's end. -/
theorem whole_next {k : Nat} (hk : k < n) (h0 : 0 < k) : ofBytes (whole z n) (rowTo z k).length = 32 := by
  have h1 : (rowTo z k).length < (rowTo z (k + 1)).length := by rw [rowTo_succ, startOf, if_pos h0]; omega
  rw [whole_at (k := k + 1) (by omega) _ h1]
  simp only [rowTo]
  rw [if_pos h0, List.append_assoc]
  have := ofBytes_right (rowTo z k) ([32] ++ Lib.itoa (z k)) 0
  rw [Nat.add_zero] at this
  rw [this]
  rfl

theorem whole_end : ofBytes (whole z n) (rowTo z n).length = 10 := by
  have := ofBytes_right (rowTo z n) [10] 0
  rw [Nat.add_zero] at this
  rw [whole, this]
  rfl

theorem whole_digit {k : Nat} (hk : k < n) (i : Nat) (hi : i < (Lib.itoa (z k)).length) : ofBytes (whole z n) (startOf z k + i) = ofBytes (Lib.itoa (z k)) i := by
  have h1 : startOf z k + i < (rowTo z (k + 1)).length := by rw [rowTo_succ]; omega
  rw [whole_at (k := k + 1) (by omega) _ h1]
  simp only [rowTo, startOf]
  by_cases h : 0 < k
  · rw [if_pos h, if_pos h]
    have := ofBytes_right (rowTo z k ++ [32]) (Lib.itoa (z k)) i
    simpa using this
  · rw [if_neg h, if_neg h]
    have := ofBytes_right (rowTo z k) (Lib.itoa (z k)) i
    simpa using this

theorem whole_length : (whole z n).length = (rowTo z n).length + 1 := by simp [whole]

theorem row_mono {k : Nat} (hk : k ≤ n) : (rowTo z k).length ≤ (rowTo z n).length := by
  obtain ⟨r, hr⟩ := row_prefix z n k hk
  rw [hr]; simp

/-- The k-th token. -/
def tokOf (z : Nat → Int) (k : Nat) : Tok := ⟨1, startOf z k, (rowTo z (k + 1)).length, z k⟩

theorem next_row (hz : ∀ i, i < n → 0 ≤ z i ∧ z i ≤ 999999999) {k : Nat} (hk : k < n) :
    next (ofBytes (whole z n)) (whole z n).length (rowTo z k).length = .ok (tokOf z k, (rowTo z (k + 1)).length) := by
  obtain ⟨z0, z9⟩ := hz k hk
  have hit := itoa_small z0
  have hd9 := digits_short (u := (z k).toNat) (by omega)
  have hd1 := digits_some (z k).toNat
  have hall := digits_all (z k).toNat
  rw [← hit] at hd9 hd1 hall
  have hlen := rowTo_succ z k
  have hm := row_mono (z := z) (n := n) (k := k + 1) (by omega)
  have hwl := whole_length (z := z) (n := n)
  have hdig : ∀ i, i < (Lib.itoa (z k)).length → 48 ≤ ofBytes (whole z n) (startOf z k + i) ∧ ofBytes (whole z n) (startOf z k + i) ≤ 57 := fun i hi => by
    rw [whole_digit hk i hi]
    have hmem := hall ((Lib.itoa (z k)).getD i 0) (by rw [List.getD_eq_getElem?_getD, List.getElem?_eq_getElem hi]; simp)
    unfold ofBytes
    omega
  have hsk : IsSkip isBlank (ofBytes (whole z n)) (whole z n).length (rowTo z k).length (startOf z k) := by
    refine ⟨by unfold startOf; omega, by omega, fun i h1 h2 => ?_, fun _ => ?_⟩
    · by_cases h0 : 0 < k
      · have : i = (rowTo z k).length := by unfold startOf at h2; rw [if_pos h0] at h2; omega
        subst this
        rw [whole_next hk h0]
        decide
      · unfold startOf at h2; rw [if_neg h0] at h2; omega
    · have h := hdig 0 hd1
      rw [Nat.add_zero] at h
      exact not_blank_of_digit (by simp [isDigit]; omega)
  have hsd : IsSkip isDigit (ofBytes (whole z n)) (whole z n).length (startOf z k) (rowTo z (k + 1)).length := by
    refine ⟨by omega, by omega, fun i h1 h2 => ?_, fun _ => ?_⟩
    · have h := hdig (i - startOf z k) (by omega)
      rw [show startOf z k + (i - startOf z k) = i by omega] at h
      simp [isDigit]; omega
    · by_cases e : k + 1 < n
      · rw [whole_next e (by omega)]; decide
      · have : k + 1 = n := by omega
        rw [this, whole_end]; decide
  have h0 := hdig 0 hd1
  rw [Nat.add_zero] at h0
  have hsub : (rowTo z (k + 1)).length - startOf z k = (Lib.itoa (z k)).length := by omega
  have hb : ¬ (9 < (rowTo z (k + 1)).length - startOf z k ∨ (1 < (rowTo z (k + 1)).length - startOf z k ∧ ofBytes (whole z n) (startOf z k) = 48)) := by
    rw [hsub]
    rintro (h | ⟨h1, h2⟩)
    · omega
    · have h3 := whole_digit hk 0 hd1
      rw [Nat.add_zero, h2, hit] at h3
      by_cases hz0 : 0 < (z k).toNat
      · exact digits_head hz0 h3.symm
      · have : (z k).toNat = 0 := by omega
        rw [hit, this, Lib.decDigits_one (by decide)] at h1
        simp at h1
  rw [next_num hsk (by omega) (by simp [isDigit]; omega) hsd hb]
  have hv : val (ofBytes (whole z n)) (startOf z k) ((rowTo z (k + 1)).length - startOf z k) = z k := by
    rw [hsub, val_numOf _ _ _ hall (fun i hi => whole_digit hk i hi), hit, numOf_digits]
    omega
  rw [hv]
  rfl

/-- All tokens from the k-th on. -/
def toksFrom (z : Nat → Int) (n : Nat) : Nat → List Tok
  | 0 => [⟨2, (rowTo z n).length, (rowTo z n).length + 1, 0⟩, ⟨3, ((rowTo z n).length + 1 : Nat), ((rowTo z n).length + 1 : Nat), 0⟩]
  | m + 1 => tokOf z (n - (m + 1)) :: toksFrom z n m

theorem scan_from (hz : ∀ i, i < n → 0 ≤ z i ∧ z i ≤ 999999999) : ∀ (m : Nat), m ≤ n → ∀ f, (whole z n).length - (rowTo z (n - m)).length < f →
    scanF (ofBytes (whole z n)) (whole z n).length f (rowTo z (n - m)).length = .ok (toksFrom z n m)
  | 0, _, f, hf => by
    have hwl := whole_length (z := z) (n := n)
    rw [Nat.sub_zero] at hf ⊢
    obtain ⟨f, rfl⟩ : ∃ f', f = f' + 1 + 1 := ⟨f - 2, by omega⟩
    have hs1 : IsSkip isBlank (ofBytes (whole z n)) (whole z n).length (rowTo z n).length (rowTo z n).length := IsSkip.here (by omega) (fun _ => by rw [whole_end]; decide)
    rw [scanF_more (f + 1) (next_line hs1 (by omega) whole_end) (by simp)]
    have hs2 : IsSkip isBlank (ofBytes (whole z n)) (whole z n).length ((rowTo z n).length + 1) (whole z n).length := by
      rw [hwl]
      exact IsSkip.here (Nat.le_refl _) (fun h => absurd h (Nat.lt_irrefl _))
    rw [scanF_last f (next_end hs2) rfl]
    simp [pre, toksFrom, hwl]
  | m + 1, hm, f, hf => by
    have hwl := whole_length (z := z) (n := n)
    have hmono := row_mono (z := z) (n := n) (k := n - (m + 1)) (by omega)
    obtain ⟨f, rfl⟩ : ∃ f', f = f' + 1 := ⟨f - 1, by omega⟩
    have hn := next_row hz (k := n - (m + 1)) (by omega)
    rw [scanF_more f hn (by simp [tokOf])]
    have e : n - (m + 1) + 1 = n - m := by omega
    have hl := rowTo_succ z (n - (m + 1))
    have hm1 := digits_some (z (n - (m + 1))).toNat
    rw [← itoa_small (hz (n - (m + 1)) (by omega)).1] at hm1
    rw [e] at hl ⊢
    rw [scan_from hz m (by omega) f (by unfold startOf at hl; omega)]
    rfl

theorem scan_row (hz : ∀ i, i < n → 0 ≤ z i ∧ z i ≤ 999999999) : scan (ofBytes (whole z n)) (whole z n).length = .ok (toksFrom z n n) := by
  have h := scan_from hz n (Nat.le_refl _) ((whole z n).length + 1) (by omega)
  rw [Nat.sub_self] at h
  exact h

theorem toksFrom_length : ∀ m, (toksFrom z n m).length = m + 2
  | 0 => rfl
  | m + 1 => by simp [toksFrom, toksFrom_length m]

theorem toksFrom_get : ∀ (m i : Nat), m ≤ n → i < m → (toksFrom z n m)[i]? = some (tokOf z (n - m + i))
  | 0, _, _, h => by omega
  | m + 1, 0, _, _ => by simp [toksFrom]
  | m + 1, i + 1, hm, h => by
    simp only [toksFrom, List.getElem?_cons_succ]
    rw [toksFrom_get m i (by omega) (by omega)]
    congr 2
    omega

theorem toksFrom_line : ∀ m, (toksFrom z n m)[m]? = some ⟨2, (rowTo z n).length, (rowTo z n).length + 1, 0⟩
  | 0 => rfl
  | m + 1 => by simp only [toksFrom, List.getElem?_cons_succ]; exact toksFrom_line m

theorem toksFrom_last : ∀ m, (toksFrom z n m)[m + 1]? = some ⟨3, ((rowTo z n).length + 1 : Nat), ((rowTo z n).length + 1 : Nat), 0⟩
  | 0 => rfl
  | m + 1 => by simp only [toksFrom, List.getElem?_cons_succ]; exact toksFrom_last m

theorem row_short (hz : ∀ i, i < n → 0 ≤ z i ∧ z i ≤ 999999999) : ∀ k, k ≤ n → (rowTo z k).length ≤ 10 * k
  | 0, _ => by simp [rowTo]
  | k + 1, hk => by
    have ih := row_short hz k (by omega)
    have := digits_short (u := (z k).toNat) (by have := hz k (by omega); omega)
    rw [← itoa_small (hz k (by omega)).1] at this
    rw [rowTo_succ, startOf]
    split <;> omega

end
end Nu
end Go.Proofs.YtodlejemkihjnaaDoor

/-
  Certificates as text, pure: what is read where, and what is written.
-/
namespace Go.Proofs.YtodlejemkihjnaaDoor
namespace Ce
open Nu

structure Cert where
  pl : Bool
  ar : List (List Int)
  es : List (Int × Int)
def zero : Cert := ⟨false, [], []⟩

/-- The bytes of a text of n bytes, by place; -1 behind its end. -/
structure Txt (B : Nat → Int) (n : Nat) : Prop where
  out : ∀ i, n ≤ i → B i = -1
  lo : ∀ i, i < n → 0 ≤ B i ∧ B i ≤ 255

section
variable (B : Nat → Int) (n : Nat)
/-- The number at i, and the place behind it. -/
def dEnd (i : Nat) : Nat := skip isDigit B n i
def okNum (i : Nat) : Prop := i < dEnd B n i ∧ dEnd B n i - i ≤ 9 ∧ (dEnd B n i - i = 1 ∨ B i ≠ 48)
instance (i : Nat) : Decidable (okNum B n i) := by unfold okNum; infer_instance
def num (i : Nat) : Option (Int × Nat) := if okNum B n i then some (val B i (dEnd B n i - i), dEnd B n i) else none

def lstF : Nat → List Int → Nat → Except Nat (List Int × Nat)
  | 0, _, i => .error i
  | f + 1, l, i => match num B n i with
    | none => .error i
    | some (v, k) => if l ≠ [] ∧ v < l.headD 0 then .error i else if B k = 10 then .ok (l ++ [v], k + 1) else if B k = 32 then lstF f (l ++ [v]) (k + 1) else .error k
def lst (i : Nat) : Except Nat (List Int × Nat) := if B i = 10 then .ok ([], i + 1) else lstF B n (n + 1) [] i

def edg (i : Nat) (last : Int × Int) : Except Nat ((Int × Int) × Nat) :=
  match num B n i with
  | none => .error i
  | some (u, k) => if B k ≠ 32 then .error k else match num B n (k + 1) with
    | none => .error (k + 1)
    | some (v, e) => if v ≤ u then .error (k + 1) else if u < last.1 ∨ (u = last.1 ∧ v ≤ last.2) then .error i else if B e ≠ 10 then .error e else .ok ((u, v), e + 1)

def lists : Nat → List (List Int) → Nat → Except Nat (List (List Int) × Nat)
  | 0, ls, i => .ok (ls, i)
  | k + 1, ls, i => match lst B n i with
    | .error e => .error e
    | .ok (l, j) => lists k (ls ++ [l]) j
def edges : Nat → List (Int × Int) → Int × Int → Nat → Except Nat (List (Int × Int) × Nat)
  | 0, es, _, i => .ok (es, i)
  | k + 1, es, last, i => match edg B n i last with
    | .error e => .error e
    | .ok (p, j) => edges k (es ++ [p]) p j

def bdy (pl : Bool) (k i : Nat) : Except Nat (Cert × Nat) :=
  if pl then (match lists B n k [] i with | .error e => .error e | .ok (ls, j) => .ok (⟨true, ls, []⟩, j))
  else (match edges B n k [] (-1, 0) i with | .error e => .error e | .ok (es, j) => .ok (⟨false, [], es⟩, j))
def most (pl : Bool) : Int := if pl then 1048576 else 4194304

/-- What Parse answers. -/
def parse : Cert × Int × Int :=
  if 33554432 < n then (zero, 33554432, 10)
  else if B 0 ≠ 112 ∧ B 0 ≠ 110 then (zero, 0, 170)
  else if B 1 ≠ 32 then (zero, 1, 170)
  else match num B n 2 with
    | none => (zero, 2, 170)
    | some (k, i) => if most (decide (B 0 = 112)) < k then (zero, 2, 170) else if B i ≠ 10 then (zero, i, 170) else match bdy B n (decide (B 0 = 112)) k.toNat (i + 1) with
      | .error e => (zero, e, 170)
      | .ok (c, j) => if j < n then (zero, j, 170) else (c, 0, 0)
end

/-- What is written. -/
def dg (x : Int) : List UInt8 := Lib.decDigits x.toNat
def jn : List Int → List UInt8
  | [] => []
  | [x] => dg x
  | x :: y :: r => dg x ++ 32 :: jn (y :: r)
def lineB (l : List Int) : List UInt8 := jn l ++ [10]
def edgeB (p : Int × Int) : List UInt8 := dg p.1 ++ 32 :: (dg p.2 ++ [10])
def bodyB (c : Cert) : List UInt8 := if c.pl then c.ar.flatMap lineB else c.es.flatMap edgeB
def cntC (c : Cert) : Nat := if c.pl then c.ar.length else c.es.length
def textB (c : Cert) : List UInt8 := [if c.pl then 112 else 110, 32] ++ (dg (cntC c) ++ 10 :: bodyB c)

def okN (x : Int) : Prop := 0 ≤ x ∧ x ≤ 999999999
def okL (l : List Int) : Prop := ∀ x ∈ l, okN x ∧ l.headD 0 ≤ x
def okE (es : List (Int × Int)) : Prop := (∀ p ∈ es, okN p.1 ∧ okN p.2 ∧ p.1 < p.2) ∧ ∀ i p q, es[i]? = some p → es[i + 1]? = some q → p.1 < q.1 ∨ (p.1 = q.1 ∧ p.2 < q.2)
/-- It has a text, but for its length. -/
def good (c : Cert) : Prop := if c.pl then c.es = [] ∧ (∀ l ∈ c.ar, okL l) ∧ c.ar.length ≤ 1048576 else c.ar = [] ∧ okE c.es ∧ c.es.length ≤ 4194304

/-- These bytes stand at i. -/
def At (B : Nat → Int) (i : Nat) (L : List UInt8) : Prop := ∀ j x, L[j]? = some x → B (i + j) = (x.toNat : Int)
theorem At.app {B : Nat → Int} {i : Nat} {a b : List UInt8} : At B i (a ++ b) ↔ At B i a ∧ At B (i + a.length) b := by
  constructor
  · intro h
    refine ⟨fun j x hj => h j x (by rw [List.getElem?_append_left (List.getElem?_eq_some_iff.1 hj).1]; exact hj), fun j x hj => ?_⟩
    rw [Nat.add_assoc]
    exact h (a.length + j) x (by rw [List.getElem?_append_right (by omega)]; simpa using hj)
  · rintro ⟨h1, h2⟩ j x hj
    by_cases hl : j < a.length
    · rw [List.getElem?_append_left hl] at hj
      exact h1 j x hj
    · rw [List.getElem?_append_right (by omega)] at hj
      have := h2 _ x hj
      rwa [show i + a.length + (j - a.length) = i + j by omega] at this
theorem At.cons {B : Nat → Int} {i : Nat} {x : UInt8} {b : List UInt8} : At B i (x :: b) ↔ B i = (x.toNat : Int) ∧ At B (i + 1) b := by
  constructor
  · intro h
    refine ⟨h 0 x rfl, fun j y hj => ?_⟩
    rw [show i + 1 + j = i + (j + 1) by omega]
    exact h (j + 1) y (by simpa using hj)
  · rintro ⟨h1, h2⟩ j y hj
    cases j with
    | zero => cases hj; exact h1
    | succ j =>
      rw [show i + (j + 1) = i + 1 + j by omega]
      exact h2 j y (by simpa using hj)
theorem At.nil {B : Nat → Int} {i : Nat} : At B i [] := fun j x h => by cases h

theorem dg_digits (x : Int) : ∀ c ∈ dg x, 48 ≤ c.toNat ∧ c.toNat ≤ 57 := digits_all _
theorem dg_some (x : Int) : 0 < (dg x).length := digits_some _
theorem dg_short {x : Int} (h : okN x) : (dg x).length ≤ 9 := digits_short (by have := h.1; have := h.2; omega)

/-- A number that stands there is read. -/
theorem num_at {B : Nat → Int} {n i : Nat} {x : Int} (hx : okN x) (h : At B i (dg x)) (hn : i + (dg x).length ≤ n) (hs : isDigit (B (i + (dg x).length)) = false) : num B n i = some (x, i + (dg x).length) := by
  have hall : ∀ j, j < (dg x).length → 48 ≤ B (i + j) ∧ B (i + j) ≤ 57 := fun j hj => by
    have h1 := h j _ (List.getElem?_eq_getElem hj)
    have h2 := dg_digits x _ (List.getElem_mem hj)
    omega
  have hsk : IsSkip isDigit B n i (i + (dg x).length) := ⟨by omega, hn, fun j h1 h2 => by
    have := hall (j - i) (by omega)
    rw [show i + (j - i) = j by omega] at this
    unfold isDigit
    simp [this], fun _ => hs⟩
  have he : dEnd B n i = i + (dg x).length := hsk.eq.symm
  have h0 := dg_some x
  have h9 := dg_short hx
  have hok : okNum B n i := by
    unfold okNum
    rw [he]
    refine ⟨by omega, by omega, ?_⟩
    by_cases h1 : x = 0
    · left
      subst h1
      have : (dg 0).length = 1 := by simp [dg, Lib.decDigits_one]
      omega
    · right
      have h2 := digits_head (u := x.toNat) (by have := hx.1; omega)
      have h3 := h 0 _ (List.getElem?_eq_getElem h0)
      rw [Nat.add_zero] at h3
      rw [h3]
      intro hc
      apply h2
      unfold ofBytes
      rw [List.getD_eq_getElem?_getD, show Lib.decDigits x.toNat = dg x from rfl, List.getElem?_eq_getElem h0]
      exact hc
  have hv : val B i (dg x).length = x := by
    rw [val_numOf B i (dg x) (dg_digits x) (fun j hj => by
      rw [h j _ (List.getElem?_eq_getElem hj)]
      unfold ofBytes
      rw [List.getD_eq_getElem?_getD, List.getElem?_eq_getElem hj]
      rfl)]
    unfold dg
    rw [numOf_digits]
    have := hx.1
    omega
  unfold num
  rw [if_pos hok, he, show i + (dg x).length - i = (dg x).length by omega, hv]
/-- What is read stands there. -/
theorem num_is {B : Nat → Int} {n i k : Nat} {x : Int} (hi : i ≤ n) (h : num B n i = some (x, k)) : okN x ∧ At B i (dg x) ∧ k = i + (dg x).length ∧ k ≤ n := by
  unfold num at h
  split at h
  · rename_i hok
    obtain ⟨h1, h2⟩ := Prod.mk.inj (Option.some.inj h)
    have hsk := skip_is isDigit B n i hi
    rw [show skip isDigit B n i = dEnd B n i from rfl, h2] at hsk
    unfold okNum at hok
    rw [h2] at hok h1
    have hd : ∀ j, j < k - i → 48 ≤ B (i + j) ∧ B (i + j) ≤ 57 := fun j hj => by
      have := hsk.all (i + j) (by omega) (by omega)
      unfold isDigit at this
      simpa using this
    have hb := val_lt_9 B i (k - i) hok.2.1 hd
    rw [h1] at hb
    have hit := itoa_val B i (k - i) (by omega) hd hok.2.2
    rw [h1, itoa_small hb.1] at hit
    have hl := bytesAt_length B i (k - i)
    have e : dg x = bytesAt B i (k - i) := hit
    refine ⟨⟨hb.1, by omega⟩, fun j y hj => ?_, by rw [e, hl]; have := hsk.lo; omega, hsk.hi⟩
    rw [e] at hj
    have hjl := (List.getElem?_eq_some_iff.1 hj).1
    rw [List.getElem?_eq_getElem hjl, bytesAt_get] at hj
    rw [hl] at hjl
    have := hd j hjl
    rw [← Option.some.inj hj]
    simp
    omega
  · cases h
end Ce
end Go.Proofs.YtodlejemkihjnaaDoor
