/-
  The text of a graph as plain functions on tokens, with no program in it: the lines, what the reader does with one line, with all of them, and at the end.
-/
import Derived.Test.YtmgjfakdjponoabDoorPlain5
namespace Go.Proofs.YtmgjfakdjponoabDoor
namespace Pa
open Nu (Tok)

/-- What the lines so far have said. -/
structure St where
  begun : Bool
  n : Int
  m : Int
  pairs : List (Int × Int)

def s0 : St := ⟨false, 0, 0, []⟩

def tk (l : List Tok) (i : Nat) : Tok := l.getD i ⟨0, 0, 0, 0⟩

def header (s : St) (l : List Tok) : Except (Int × Int) St :=
  if l.length ≠ 2 then .error (20, (tk l 0).at')
  else if 1048576 < (tk l 0).num then .error (21, (tk l 0).at')
  else if 2097152 < (tk l 1).num then .error (22, (tk l 1).at')
  else .ok ⟨true, (tk l 0).num, (tk l 1).num, s.pairs⟩

def edge (s : St) (l : List Tok) : Except (Int × Int) St :=
  if (s.pairs.length : Int) = s.m then .error (26, (tk l 0).at')
  else if l.length ≠ 2 then .error (23, (tk l 0).at')
  else if s.n ≤ (tk l 0).num then .error (24, (tk l 0).at')
  else if s.n ≤ (tk l 1).num then .error (24, (tk l 1).at')
  else .ok ⟨s.begun, s.n, s.m, s.pairs ++ [((tk l 0).num, (tk l 1).num)]⟩

def line (s : St) (l : List Tok) : Except (Int × Int) St := if s.begun = true then edge s l else header s l

def fin (s : St) (a : Int) : Except (Int × Int) St :=
  if s.begun = false then .error (20, a) else if (s.pairs.length : Int) < s.m then .error (25, a) else .ok s

/-- The lines that have numbers: cur is what the present one has so far. -/
def lns : List Tok → List Tok → List (List Tok)
  | _, [] => []
  | cur, t :: ts => if t.kind = 1 then lns (cur ++ [t]) ts else if cur = [] then lns [] ts else cur :: lns [] ts

def run : St → List (List Tok) → Except (Int × Int) St
  | s, [] => .ok s
  | s, l :: ls => match line s l with
    | .error x => .error x
    | .ok s' => run s' ls

def judge (ls : List (List Tok)) (n : Int) : Except (Int × Int) St := match run s0 ls with
  | .error x => .error x
  | .ok s => fin s n

def raw (g : Nat → Int) (n : Nat) : Except (Int × Int) St :=
  if 16777216 < n then .error (10, 16777216)
  else match Nu.scan g n with
    | .error x => .error (x.2, x.1)
    | .ok ts => judge (lns [] ts) n

/-- What is to be answered from a state in the midst. -/
def go (s : St) (ls : List (List Tok)) (n : Int) : Except (Int × Int) St := match run s ls with
  | .error x => .error x
  | .ok s => fin s n

theorem judge_go (ls : List (List Tok)) (n : Int) : judge ls n = go s0 ls n := rfl

theorem go_error {s : St} {l : List Tok} {ls : List (List Tok)} {n : Int} {x : Int × Int} (h : line s l = .error x) : go s (l :: ls) n = .error x := by simp [go, run, h]
theorem go_ok {s s' : St} {l : List Tok} {ls : List (List Tok)} {n : Int} (h : line s l = .ok s') : go s (l :: ls) n = go s' ls n := by simp [go, run, h]
theorem go_nil (s : St) (n : Int) : go s [] n = fin s n := rfl

theorem lns_num {cur ts : List Tok} {t : Tok} (h : t.kind = 1) : lns cur (t :: ts) = lns (cur ++ [t]) ts := by simp [lns, h]
theorem lns_empty {ts : List Tok} {t : Tok} (h : t.kind ≠ 1) : lns [] (t :: ts) = lns [] ts := by simp [lns, h]
theorem lns_line {cur ts : List Tok} {t : Tok} (h : t.kind ≠ 1) (hc : cur ≠ []) : lns cur (t :: ts) = cur :: lns [] ts := by simp [lns, h, hc]

theorem next_three {g : Nat → Int} {n p p' : Nat} {t : Tok} (hp : p ≤ n) (h : Nu.next g n p = .ok (t, p')) (h3 : t.kind = 3) : t = ⟨3, n, n, 0⟩ := by
  have hs := Nu.skip_is Nu.isBlank g n p hp
  by_cases h1 : Nu.skip Nu.isBlank g n p = n
  · rw [h1] at hs
    rw [Nu.next_end hs] at h
    cases h
    rfl
  · have hlt : Nu.skip Nu.isBlank g n p < n := Nat.lt_of_le_of_ne hs.hi h1
    cases hd : Nu.isDigit (g (Nu.skip Nu.isBlank g n p))
    · by_cases h10 : g (Nu.skip Nu.isBlank g n p) = 10
      · rw [Nu.next_line hs hlt h10] at h
        cases h
        simp at h3
      · rw [Nu.next_byte hs hlt hd h10] at h
        cases h
    · have hr := Nu.skip_is Nu.isDigit g n (Nu.skip Nu.isBlank g n p) hs.hi
      by_cases hb : 9 < Nu.skip Nu.isDigit g n (Nu.skip Nu.isBlank g n p) - Nu.skip Nu.isBlank g n p ∨ (1 < Nu.skip Nu.isDigit g n (Nu.skip Nu.isBlank g n p) - Nu.skip Nu.isBlank g n p ∧ g (Nu.skip Nu.isBlank g n p) = 48)
      · rw [Nu.next_bad hs hlt hd hr hb] at h
        cases h
      · rw [Nu.next_num hs hlt hd hr hb] at h
        cases h
        simp at h3

/-- The end is the last token and no other. -/
theorem scanF_shape {g : Nat → Int} {n : Nat} : ∀ {k p : Nat} {ts : List Tok}, p ≤ n → n - p < k → Nu.scanF g n k p = .ok ts → ∃ us, ts = us ++ [⟨3, n, n, 0⟩] ∧ ∀ t ∈ us, t.kind = 1 ∨ t.kind = 2
  | 0, p, ts, _, hk, _ => by omega
  | k + 1, p, ts, hp, hk, h => by
    cases hx : Nu.next g n p with
    | error x => rw [Nu.scanF_fault k hx] at h; cases h
    | ok y =>
      obtain ⟨u, p'⟩ := y
      have hm := Nu.next_moves hp hx
      have hf := Nu.next_fits hp hx
      by_cases h3 : u.kind = 3
      · rw [Nu.scanF_last k hx h3] at h
        cases h
        exact ⟨[], by rw [next_three hp hx h3]; rfl, fun t ht => by cases ht⟩
      · rw [Nu.scanF_more k hx h3] at h
        have hlt := hm.2 h3
        cases hr : Nu.scanF g n k p' with
        | error x => rw [hr] at h; cases h
        | ok us =>
          rw [hr] at h
          cases h
          obtain ⟨vs, rfl, hv⟩ := scanF_shape hm.1 (by omega) hr
          refine ⟨u :: vs, rfl, fun t ht => ?_⟩
          rcases List.mem_cons.1 ht with rfl | ht
          · have := hf.1; omega
          · exact hv t ht

theorem scan_shape {g : Nat → Int} {n : Nat} {ts : List Tok} (h : Nu.scan g n = .ok ts) : ∃ us, ts = us ++ [⟨3, n, n, 0⟩] ∧ ∀ t ∈ us, t.kind = 1 ∨ t.kind = 2 :=
  scanF_shape (Nat.zero_le _) (by omega) h

end Pa
end Go.Proofs.YtmgjfakdjponoabDoor
