import Derived.Test.YtfjgmbimapkabaaDoorMg03
import Derived.Test.YtfjgmbimapkabaaDoorProg
import Derived.WalkKit
import Derived.WalkSpells
import Derived.WalkLawsBesides
/-
  Certificates as text, pure: faults lie within the text; one text is one certificate's; texts cut short or with more behind.
-/
namespace Go.Proofs.YtfjgmbimapkabaaDoor
namespace Ce
open Nu
section
variable {B : Nat → Int} {n : Nat}

theorem lstF_le (hT : Txt B n) : ∀ (f : Nat) (l0 : List Int) (i : Nat) {e : Nat}, i ≤ n → lstF B n f l0 i = .error e → e ≤ n
  | 0, _, _, _, hi, h => by cases h; exact hi
  | f + 1, l0, i, e, hi, h => by
    unfold lstF at h
    cases hm : num B n i with
    | none => rw [hm] at h; cases h; exact hi
    | some q =>
      obtain ⟨v, k⟩ := q
      rw [hm] at h
      dsimp only at h
      obtain ⟨-, -, -, n4⟩ := num_is hi hm
      by_cases hh : l0 ≠ [] ∧ v < l0.headD 0
      · rw [if_pos hh] at h; cases h; exact hi
      · rw [if_neg hh] at h
        by_cases h10 : B k = 10
        · rw [if_pos h10] at h; cases h
        · rw [if_neg h10] at h
          by_cases h32 : B k = 32
          · rw [if_pos h32] at h
            have := in_of hT h32 (by decide)
            exact lstF_le hT f _ (k + 1) (by omega) h
          · rw [if_neg h32] at h; cases h; exact n4
theorem lst_le (hT : Txt B n) {i e : Nat} (hi : i ≤ n) (h : lst B n i = .error e) : e ≤ n := by
  unfold lst at h
  by_cases h10 : B i = 10
  · rw [if_pos h10] at h; cases h
  · rw [if_neg h10] at h
    exact lstF_le hT _ _ i hi h
theorem edg_le (hT : Txt B n) {i e : Nat} {last : Int × Int} (hi : i ≤ n) (h : edg B n i last = .error e) : e ≤ n := by
  unfold edg at h
  cases hm : num B n i with
  | none => rw [hm] at h; cases h; exact hi
  | some q =>
    obtain ⟨u, k⟩ := q
    rw [hm] at h
    dsimp only at h
    obtain ⟨-, -, -, n4⟩ := num_is hi hm
    by_cases h32 : B k ≠ 32
    · rw [if_pos h32] at h; cases h; exact n4
    · rw [if_neg h32] at h
      have hlt := in_of hT (Classical.byContradiction h32 : B k = 32) (by decide)
      cases hm2 : num B n (k + 1) with
      | none => rw [hm2] at h; cases h; omega
      | some q =>
        obtain ⟨v, e2⟩ := q
        rw [hm2] at h
        dsimp only at h
        obtain ⟨-, -, -, m4⟩ := num_is (by omega) hm2
        by_cases c1 : v ≤ u
        · rw [if_pos c1] at h; cases h; omega
        · rw [if_neg c1] at h
          by_cases c2 : u < last.1 ∨ (u = last.1 ∧ v ≤ last.2)
          · rw [if_pos c2] at h; cases h; exact hi
          · rw [if_neg c2] at h
            by_cases c3 : B e2 ≠ 10
            · rw [if_pos c3] at h; cases h; exact m4
            · rw [if_neg c3] at h; cases h
theorem lists_le (hT : Txt B n) : ∀ (k : Nat) (ls0 : List (List Int)) (i : Nat) {e : Nat}, i ≤ n → lists B n k ls0 i = .error e → e ≤ n
  | 0, _, _, _, _, h => by cases h
  | k + 1, ls0, i, e, hi, h => by
    have h : (match lst B n i with | .error e => .error e | .ok (l, j) => lists B n k (ls0 ++ [l]) j) = (Except.error e : Except Nat (List (List Int) × Nat)) := h
    cases hl : lst B n i with
    | error e' => rw [hl] at h; cases h; exact lst_le hT hi hl
    | ok q =>
      obtain ⟨l, j⟩ := q
      rw [hl] at h
      exact lists_le hT k _ j (lst_is hT hi hl).2.2.2 h
theorem edges_le (hT : Txt B n) : ∀ (k : Nat) (es0 : List (Int × Int)) (last : Int × Int) (i : Nat) {e : Nat}, i ≤ n → edges B n k es0 last i = .error e → e ≤ n
  | 0, _, _, _, _, _, h => by cases h
  | k + 1, es0, last, i, e, hi, h => by
    have h : (match edg B n i last with | .error e => .error e | .ok (p, j) => edges B n k (es0 ++ [p]) p j) = (Except.error e : Except Nat (List (Int × Int) × Nat)) := h
    cases hl : edg B n i last with
    | error e' => rw [hl] at h; cases h; exact edg_le hT hi hl
    | ok q =>
      obtain ⟨p, j⟩ := q
      rw [hl] at h
      exact edges_le hT k _ p j (edg_is hT hi hl).2.2.2.2 h
theorem bdy_le (hT : Txt B n) {pl : Bool} {k i e : Nat} (hi : i ≤ n) (h : bdy B n pl k i = .error e) : e ≤ n := by
  unfold bdy at h
  split at h
  · cases hl : lists B n k [] i with
    | error e' => rw [hl] at h; cases h; exact lists_le hT k _ i hi hl
    | ok q => rw [hl] at h; cases h
  · cases hl : edges B n k [] (-1, 0) i with
    | error e' => rw [hl] at h; cases h; exact edges_le hT k _ _ i hi hl
    | ok q => rw [hl] at h; cases h

/-- A fault is told with the zero certificate, within the text. -/
theorem parse_fault (hT : Txt B n) : (parse B n).2.2 = 0 ∨ ((parse B n).1 = zero ∧ 0 ≤ (parse B n).2.1 ∧ (parse B n).2.1 ≤ n ∧ ((parse B n).2.2 = 170 ∧ n ≤ 33554432 ∨ (parse B n).2.2 = 10)) := by
  have mk : ∀ {x : Cert × Int × Int} {p : Int}, x = (zero, p, 170) → 0 ≤ p → p ≤ n → n ≤ 33554432 → x.2.2 = 0 ∨ (x.1 = zero ∧ 0 ≤ x.2.1 ∧ x.2.1 ≤ n ∧ (x.2.2 = 170 ∧ n ≤ 33554432 ∨ x.2.2 = 10)) := fun {x p} h h0 h1 h2 => by
    subst h
    exact .inr ⟨rfl, h0, h1, .inl ⟨rfl, h2⟩⟩
  by_cases c0 : 33554432 < n
  · unfold parse
    rw [if_pos c0]
    exact .inr ⟨rfl, by decide, by dsimp only; omega, .inr rfl⟩
  · have hm' : n ≤ 33554432 := by omega
    by_cases c1 : B 0 ≠ 112 ∧ B 0 ≠ 110
    · exact mk (p := 0) (by unfold parse; rw [if_neg c0, if_pos c1]) (by decide) (by omega) hm'
    · have h0 : 0 < n := by
        by_cases h : B 0 = 112
        · exact in_of hT h (by decide)
        · exact in_of hT (show B 0 = 110 by omega) (by decide)
      by_cases c2 : B 1 ≠ 32
      · exact mk (p := 1) (by unfold parse; rw [if_neg c0, if_neg c1, if_pos c2]) (by decide) (by omega) hm'
      · have hn1 := in_of hT (Classical.byContradiction c2 : B 1 = 32) (by decide)
        cases hm : num B n 2 with
        | none => exact mk (p := 2) (by unfold parse; rw [if_neg c0, if_neg c1, if_neg c2, hm]) (by decide) (by omega) hm'
        | some q =>
          obtain ⟨k, i⟩ := q
          obtain ⟨-, -, -, n4⟩ := num_is (by omega) hm
          by_cases c3 : most (decide (B 0 = 112)) < k
          · exact mk (p := 2) (by unfold parse; rw [if_neg c0, if_neg c1, if_neg c2, hm]; dsimp only; rw [if_pos c3]) (by decide) (by omega) hm'
          · by_cases c4 : B i ≠ 10
            · exact mk (p := i) (by unfold parse; rw [if_neg c0, if_neg c1, if_neg c2, hm]; dsimp only; rw [if_neg c3, if_pos c4]) (by omega) (by omega) hm'
            · have hni := in_of hT (Classical.byContradiction c4 : B i = 10) (by decide)
              cases hb : bdy B n (decide (B 0 = 112)) k.toNat (i + 1) with
              | error e => exact mk (p := e) (by unfold parse; rw [if_neg c0, if_neg c1, if_neg c2, hm]; dsimp only; rw [if_neg c3, if_neg c4, hb]) (by omega) (by have := bdy_le hT (by omega) hb; omega) hm'
              | ok q =>
                obtain ⟨c, j⟩ := q
                by_cases c5 : j < n
                · exact mk (p := j) (by unfold parse; rw [if_neg c0, if_neg c1, if_neg c2, hm]; dsimp only; rw [if_neg c3, if_neg c4, hb]; dsimp only; rw [if_pos c5]) (by omega) (by omega) hm'
                · left
                  unfold parse
                  rw [if_neg c0, if_neg c1, if_neg c2, hm]
                  dsimp only
                  rw [if_neg c3, if_neg c4, hb]
                  dsimp only
                  rw [if_neg c5]
end

/-- A list of bytes, as a text. -/
def ofL (L : List UInt8) (i : Nat) : Int := match L[i]? with | some x => (x.toNat : Int) | none => -1
theorem ofL_txt (L : List UInt8) : Txt (ofL L) L.length := by
  refine ⟨fun i hi => ?_, fun i hi => ?_⟩
  · unfold ofL
    rw [List.getElem?_eq_none hi]
  · unfold ofL
    rw [List.getElem?_eq_getElem hi]
    have := L[i].toNat_lt
    dsimp only
    omega
theorem ofL_at {L M : List UInt8} : At (ofL (L ++ M)) 0 L := fun j x hj => by
  unfold ofL
  rw [Nat.zero_add, List.getElem?_append_left (List.getElem?_eq_some_iff.1 hj).1, hj]
theorem at_eq {B : Nat → Int} {L M : List UInt8} (h : At B 0 L) (k : At B 0 M) (hl : L.length = M.length) : L = M := by
  refine List.ext_getElem? fun i => ?_
  by_cases hi : i < L.length
  · have h1 := h i _ (List.getElem?_eq_getElem hi)
    have h2 := k i _ (List.getElem?_eq_getElem (hl ▸ hi))
    rw [List.getElem?_eq_getElem hi, List.getElem?_eq_getElem (hl ▸ hi)]
    congr 1
    exact UInt8.toNat_inj.1 (by omega)
  · rw [List.getElem?_eq_none (by omega), List.getElem?_eq_none (by omega)]

theorem parse_text {c : Cert} (hg : good c) (hl : (textB c).length ≤ 33554432) : parse (ofL (textB c)) (textB c).length = (c, 0, 0) := by
  have h : At (ofL (textB c)) 0 (textB c) := by
    have := ofL_at (L := textB c) (M := [])
    rwa [List.append_nil] at this
  rw [parse_at hg h (Nat.le_refl _) hl, if_neg (by omega)]
/-- One text is one certificate's. -/
theorem text_inj {c d : Cert} (hc : good c) (hd : good d) (hl : (textB c).length ≤ 33554432) (h : textB c = textB d) : c = d := by
  have h1 := parse_text hc hl
  have h2 := parse_text hd (by rw [← h]; exact hl)
  rw [← h, h1] at h2
  exact congrArg Prod.fst h2
/-- Of a text that is cut short nothing is read. -/
theorem parse_cut {c : Cert} (hg : good c) (hl : (textB c).length ≤ 33554432) {k : Nat} (hk : k < (textB c).length) {B : Nat → Int} (hT : Txt B k) (hB : ∀ i, i < k → B i = ofL (textB c) i) : (parse B k).2.2 = 170 ∧ 0 ≤ (parse B k).2.1 ∧ (parse B k).2.1 ≤ k := by
  rcases parse_fault hT with h | ⟨-, h1, h2, h3⟩
  · exfalso
    obtain ⟨d, p, e, hp⟩ : ∃ d p e, parse B k = (d, p, e) := ⟨_, _, _, rfl⟩
    rw [hp] at h
    obtain rfl : e = 0 := h
    obtain ⟨g1, g2, g3, g4, -⟩ := parse_is hT hp
    have hat : At (ofL (textB c)) 0 (textB d) := fun j x hj => by
      have hjl := (List.getElem?_eq_some_iff.1 hj).1
      rw [Nat.zero_add, ← hB j (by omega)]
      have := g2 j x hj
      rwa [Nat.zero_add] at this
    have h1 := parse_at g1 hat (n := (textB c).length) (by omega) hl
    rw [parse_text hg hl, if_pos (by omega)] at h1
    have := congrArg (fun x : Cert × Int × Int => x.2.2) h1
    dsimp only at this
    omega
  · rcases h3 with ⟨h3, -⟩ | h3
    · exact ⟨h3, h1, h2⟩
    · exfalso
      unfold parse at h3
      rw [if_neg (by omega)] at h3
      revert h3
      repeat' split
      all_goals (intro h3; revert h3; first | (dsimp only; omega) | skip)
end Ce
end Go.Proofs.YtfjgmbimapkabaaDoor
/-
  Certificates as text, pure: what a scan of a run of digits says; edges read from {0 0} on.
-/
namespace Go.Proofs.YtfjgmbimapkabaaDoor
namespace Ce
open Nu
section
variable {B : Nat → Int} {n : Nat}

theorem val_run (q : Nat) : ∀ k, val (fun i => B (q + i)) 0 k = val B q k
  | 0 => rfl
  | k + 1 => by simp [val, val_run q k]

/-- What a scan of all digits that stand at i says. -/
theorem scan_run {i : Nat} (hi : i ≤ n) :
    (∃ v k, num B n i = some (v, k) ∧ k = dEnd B n i ∧ scan (fun j => B (i + j)) (dEnd B n i - i) = .ok [⟨1, 0, ((dEnd B n i - i : Nat) : Int), v⟩, ⟨3, ((dEnd B n i - i : Nat) : Int), ((dEnd B n i - i : Nat) : Int), 0⟩]) ∨
    (num B n i = none ∧ ((∃ x, scan (fun j => B (i + j)) (dEnd B n i - i) = .error x) ∨ (dEnd B n i = i ∧ scan (fun j => B (i + j)) (dEnd B n i - i) = .ok [⟨3, 0, 0, 0⟩]))) := by
  have hsk : IsSkip isDigit B n i (dEnd B n i) := skip_is isDigit B n i hi
  obtain ⟨m, hm⟩ : ∃ m, dEnd B n i - i = m := ⟨_, rfl⟩
  have hd : ∀ j, j < m → isDigit (B (i + j)) = true := fun j hj => hsk.all (i + j) (by omega) (by omega)
  rw [hm]
  by_cases h0 : m = 0
  · right
    subst h0
    have hno : ¬ okNum B n i := fun h => by have := h.1; omega
    refine ⟨by unfold num; rw [if_neg hno], .inr ⟨by have := hsk.lo; omega, ?_⟩⟩
    unfold scan
    have h1 : IsSkip isBlank (fun j => B (i + j)) 0 0 0 := IsSkip.here (Nat.le_refl _) (fun h => absurd h (Nat.lt_irrefl _))
    exact scanF_last 0 (next_end h1) rfl
  · have h1 : IsSkip isBlank (fun j => B (i + j)) m 0 0 := IsSkip.here (Nat.zero_le _) (fun _ => not_blank_of_digit (hd 0 (by omega)))
    have h2 : IsSkip isDigit (fun j => B (i + j)) m 0 m := ⟨Nat.zero_le _, Nat.le_refl _, fun j _ hj => hd j hj, fun h => absurd h (Nat.lt_irrefl _)⟩
    have hd0 := hd 0 (by omega)
    by_cases hok : okNum B n i
    · left
      have hb : ¬ (9 < m - 0 ∨ (1 < m - 0 ∧ B (i + 0) = 48)) := fun h => by
        obtain ⟨q1, q2, q3⟩ := hok
        rw [Nat.add_zero] at h
        rcases h with h | h
        · omega
        · rcases q3 with q3 | q3
          · omega
          · exact q3 h.2
      refine ⟨val B i (dEnd B n i - i), dEnd B n i, by unfold num; rw [if_pos hok], rfl, ?_⟩
      rw [hm]
      have hn := next_num (g := fun j => B (i + j)) (n := m) (p := 0) (q := 0) (r := m) h1 (by omega) hd0 h2 hb
      rw [Nat.sub_zero, val_run] at hn
      have he := next_end (g := fun j => B (i + j)) (n := m) (p := m) (IsSkip.here (Nat.le_refl _) (fun h => absurd h (Nat.lt_irrefl _)))
      unfold scan
      rw [scanF_more m hn (show (1 : Int) ≠ 3 by decide)]
      obtain ⟨m', rfl⟩ : ∃ m', m = m' + 1 := ⟨m - 1, by omega⟩
      rw [scanF_last m' he rfl]
      rfl
    · right
      have hb : 9 < m - 0 ∨ (1 < m - 0 ∧ B (i + 0) = 48) := by
        rw [Nat.add_zero]
        by_cases h9 : 9 < m
        · left; omega
        · right
          refine Classical.byContradiction fun h => hok ⟨by omega, by omega, ?_⟩
          by_cases h1 : m = 1
          · left; omega
          · right; exact fun h48 => h ⟨by omega, h48⟩
      refine ⟨by unfold num; rw [if_neg hok], .inl ⟨(0, 12), ?_⟩⟩
      unfold scan
      exact scanF_fault (x := (0, 12)) m (next_bad (g := fun j => B (i + j)) (n := m) (p := 0) (q := 0) (r := m) h1 (by omega) hd0 h2 hb)

theorem edg_zero (i : Nat) (hi : i ≤ n) (hT : Txt B n) : edg B n i (0, 0) = edg B n i (-1, 0) := by
  unfold edg
  cases hm : num B n i with
  | none => rfl
  | some q =>
    obtain ⟨u, k⟩ := q
    dsimp only
    obtain ⟨n1, -, -, n4⟩ := num_is hi hm
    by_cases h32 : B k ≠ 32
    · rw [if_pos h32, if_pos h32]
    · rw [if_neg h32, if_neg h32]
      have hlt := in_of hT (Classical.byContradiction h32 : B k = 32) (by decide)
      cases hm2 : num B n (k + 1) with
      | none => rfl
      | some q =>
        obtain ⟨v, e⟩ := q
        dsimp only
        obtain ⟨m1, -, -, -⟩ := num_is (by omega) hm2
        by_cases c1 : v ≤ u
        · rw [if_pos c1, if_pos c1]
        · have := n1.1
          have := m1.1
          have c2 : ¬ (u < ((0 : Int), (0 : Int)).1 ∨ (u = ((0 : Int), (0 : Int)).1 ∧ v ≤ ((0 : Int), (0 : Int)).2)) := by dsimp only; omega
          have c3 : ¬ (u < ((-1 : Int), (0 : Int)).1 ∨ (u = ((-1 : Int), (0 : Int)).1 ∧ v ≤ ((-1 : Int), (0 : Int)).2)) := by dsimp only; omega
          rw [if_neg c1, if_neg c1, if_neg c2, if_neg c3]
/-- It is the same whether the first edge must stand above {0 0} or above {-1 0}. -/
theorem edges_zero (k i : Nat) (hi : i ≤ n) (hT : Txt B n) : edges B n k [] (0, 0) i = edges B n k [] (-1, 0) i := by
  cases k with
  | zero => rfl
  | succ k =>
    show (match edg B n i (0, 0) with | .error e => Except.error e | .ok (p, j) => edges B n k ([] ++ [p]) p j) = (match edg B n i (-1, 0) with | .error e => Except.error e | .ok (p, j) => edges B n k ([] ++ [p]) p j)
    rw [edg_zero i hi hT]
end
end Ce
end Go.Proofs.YtfjgmbimapkabaaDoor
/-
  Memory: the words by which the walks say what lies where, and their small laws.
-/
namespace Go.Proofs.YtfjgmbimapkabaaDoor
open Go.RowKit

theorem Nu.hid {p : Prop} (h : p) : Hid p := h

/-- The bytes g 0 .. g (n - 1) lie at ao. -/
def HasText (w : World) (ao : Option Addr) (n : Nat) (g : Nat → Int) : Prop :=
  ∀ i, i < n → (0 ≤ g i ∧ g i ≤ 255) ∧ ∃ tb to, ao = some ⟨tb, to, none⟩ ∧ w.cell? ⟨tb, to + i, none⟩ = some (.int .u8 (g i))

def Apart (ao : Option Addr) (b : Nat) : Prop := ∀ x, ao = some x → x.block ≠ b

section
variable {w w' : World} {b : Nat} {ao : Option Addr} {n cap p : Nat} {g : Nat → Int}

theorem grownBy_setCell {w0 : World} (h : w0.grownBy w (some b)) (i : Nat) (v : Value) : w0.grownBy (w.setCell ⟨b, i, none⟩ v) (some b) := by
  refine ⟨h.os, h.tape, h.output, by simpa using h.size, fun k hk hne => ?_⟩
  rw [heap_setCell_other w ⟨b, i, none⟩ k v (fun e => hne (by rw [e])), h.block k hk hne]
theorem grownBy_trans {w0 w1 w2 : World} {r : Option Nat} (h : w0.grownBy w1 r) (k : w1.grownBy w2 r) : w0.grownBy w2 r :=
  ⟨k.os.trans h.os, k.tape.trans h.tape, k.output.trans h.output, Nat.le_trans h.size k.size, fun i hi hne => (k.block i (Nat.lt_of_lt_of_le hi h.size) hne).trans (h.block i hi hne)⟩
theorem grownBy_drewN {w0 : World} {r : Option Nat} (h : w0.grownBy w r) (k : Nat) : w0.grownBy (w.drewN k) r := ⟨h.os, h.tape, h.output, h.size, h.block⟩
theorem grownBy_drew {w0 : World} {r : Option Nat} (h : w0.grownBy w r) : w0.grownBy w.drew r := ⟨h.os, h.tape, h.output, h.size, h.block⟩
theorem grownBy_alloc' {w0 : World} {r : Option Nat} (h : w0.grownBy w r) (o : Obj) : w0.grownBy (w.alloc o) r := grownBy_trans h (World.grownBy_alloc w o r)

/-- Four stores into block B. -/
def put4 (w : World) (B : Nat) (a b c d : Value) : World := (((w.setCell ⟨B, 0, none⟩ a).setCell ⟨B, 1, none⟩ b).setCell ⟨B, 2, none⟩ c).setCell ⟨B, 3, none⟩ d
theorem put4_heap {B : Nat} {t : TypeId} {x0 x1 x2 x3 : Value} (h : w.heap[B]? = some (.cells #[x0, x1, x2, x3] t (0, 0))) (a b c d : Value) : (put4 w B a b c d).heap[B]? = some (.cells #[a, b, c, d] t (0, 0)) := by
  have h1 := heap_setCell_same w B 0 _ t a h
  have h2 := heap_setCell_same _ B 1 _ t b h1
  have h3 := heap_setCell_same _ B 2 _ t c h2
  have h4 := heap_setCell_same _ B 3 _ t d h3
  unfold put4
  simpa using h4
theorem put4_other {B k : Nat} (hk : k ≠ B) (a b c d : Value) : (put4 w B a b c d).heap[k]? = w.heap[k]? := by
  unfold put4
  rw [heap_setCell_other _ ⟨B, 3, none⟩ k d hk, heap_setCell_other _ ⟨B, 2, none⟩ k c hk, heap_setCell_other _ ⟨B, 1, none⟩ k b hk, heap_setCell_other _ ⟨B, 0, none⟩ k a hk]
theorem put4_size (B : Nat) (a b c d : Value) : (put4 w B a b c d).heap.size = w.heap.size := by simp [put4]
theorem grownBy_put4 {w0 : World} {r : Option Nat} (h : w0.grownBy w r) {B : Nat} (hB : w0.heap.size ≤ B) (x0 x1 x2 x3 : Value) : w0.grownBy (put4 w B x0 x1 x2 x3) r :=
  ⟨h.os, h.tape, h.output, by rw [put4_size]; exact h.size, fun k hk hne => (put4_other (by omega) x0 x1 x2 x3).trans (h.block k hk hne)⟩

theorem HasText.grown (h : HasText w ao n g) (hg : w.grownBy w' (some b)) (ha : Apart ao b) : HasText w' ao n g := by
  intro i hi
  obtain ⟨hb, tb, to, e, hc⟩ := h i hi
  exact ⟨hb, tb, to, e, hg.cell hc (by simpa using ha _ e)⟩
theorem HasText.alloc (h : HasText w ao n g) (o : Obj) : HasText (w.alloc o) ao n g := by
  intro i hi
  obtain ⟨hb, tb, to, e, hc⟩ := h i hi
  exact ⟨hb, tb, to, e, (World.grownBy_alloc w o none).cell hc (by simp)⟩
theorem HasText.drewN (h : HasText w ao n g) (k : Nat) : HasText (w.drewN k) ao n g := h
theorem HasText.grown0 (h : HasText w ao n g) (hg : w.grownBy w' none) : HasText w' ao n g := by
  intro i hi
  obtain ⟨hb, tb, to, e, hc⟩ := h i hi
  exact ⟨hb, tb, to, e, hg.cell hc (by simp)⟩
theorem HasText.later (h : HasText w ao n g) (hg : Below w.heap.size w w') : HasText w' ao n g := by
  intro i hi
  obtain ⟨hb, tb, to, e, hc⟩ := h i hi
  exact ⟨hb, tb, to, e, (hg.cell (p := ⟨tb, to + i, none⟩) (block_lt_of_cell hc)).trans hc⟩
theorem HasText.below {B : Nat} (h : HasText w ao n g) (hg : Below B w w') (ha : ∀ x, ao = some x → x.block < B) : HasText w' ao n g := by
  intro i hi
  obtain ⟨hb, tb, to, e, hc⟩ := h i hi
  exact ⟨hb, tb, to, e, (hg.cell (p := ⟨tb, to + i, none⟩) (show tb < B from ha _ e)).trans hc⟩
end

end Go.Proofs.YtfjgmbimapkabaaDoor
