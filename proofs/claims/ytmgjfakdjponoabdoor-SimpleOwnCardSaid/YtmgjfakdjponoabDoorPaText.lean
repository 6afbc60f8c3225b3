/-
  Lines of two numbers, written and read: the tokens of such a text, its lines, and what the reader makes of them; with no program in it.
-/
import Derived.Test.YtmgjfakdjponoabDoorPa
import Derived.Test.YtmgjfakdjponoabDoorPlain7
namespace Go.Proofs.YtmgjfakdjponoabDoor
namespace Pa
open Nu (Tok ofBytes)

/-- The numbers a and b. -/
def two (a b : Int) : Nat → Int := fun i => if i = 0 then a else b

/-- A line without its end. -/
def row (p : Int × Int) : List UInt8 := Lib.itoa p.1 ++ [32] ++ Lib.itoa p.2

theorem rowTo_two (a b : Int) : rowTo (two a b) 2 = row (a, b) := by simp [rowTo, two, row]
theorem rowTo_one (a b : Int) : rowTo (two a b) 1 = Lib.itoa a := by simp [rowTo, two]

def Small (p : Int × Int) : Prop := (0 ≤ p.1 ∧ p.1 ≤ 999999999) ∧ 0 ≤ p.2 ∧ p.2 ≤ 999999999

/-- Lines, each with its end. -/
def body (ls : List (Int × Int)) : List UInt8 := ls.flatMap fun p => row p ++ [10]

/-- The tokens of lines, the first of which begins at place k. -/
def toks : Nat → List (Int × Int) → List Tok
  | k, [] => [⟨3, k, k, 0⟩]
  | k, p :: r => ⟨1, k, (k + (Lib.itoa p.1).length : Nat), p.1⟩ :: ⟨1, (k + ((Lib.itoa p.1).length + 1) : Nat), (k + (row p).length : Nat), p.2⟩ :: ⟨2, (k + (row p).length : Nat), (k + (row p).length + 1 : Nat), 0⟩ :: toks (k + (row p).length + 1) r

theorem joined_bytes (a b : List UInt8) : Nu.Joined (ofBytes (a ++ [10] ++ b)) (ofBytes a) (ofBytes b) (a.length + 1 + b.length) a.length b.length := by
  refine ⟨rfl, fun i hi => ?_, ?_, fun i hi => ?_⟩
  · rw [List.append_assoc]; exact Nu.ofBytes_left a _ i hi
  · have := Nu.ofBytes_right a ([10] ++ b) 0
    rw [Nat.add_zero] at this
    rw [List.append_assoc, this]
    rfl
  · have := Nu.ofBytes_right (a ++ [10]) b i
    rw [List.length_append] at this
    exact this

theorem scan_none : Nu.scan (ofBytes []) 0 = .ok [⟨3, (0 : Nat), (0 : Nat), 0⟩] := by rfl

theorem scan_two {p : Int × Int} (h : Small p) : Nu.scan (ofBytes (row p)) (row p).length = .ok [⟨1, 0, ((Lib.itoa p.1).length : Nat), p.1⟩, ⟨1, ((Lib.itoa p.1).length + 1 : Nat), ((row p).length : Nat), p.2⟩, ⟨3, ((row p).length : Nat), ((row p).length : Nat), 0⟩] := by
  obtain ⟨a, b⟩ := p
  have hz : ∀ i, i < 2 → 0 ≤ two a b i ∧ two a b i ≤ 999999999 := fun i hi => by
    unfold two
    split
    · exact h.1
    · exact h.2
  have hs := Nu.scan_row hz
  have hw : Nu.whole (two a b) 2 = row (a, b) ++ [10] ++ [] := by simp [Nu.whole, rowTo_two]
  rw [hw] at hs
  have hj := joined_bytes (row (a, b)) []
  have hl : (row (a, b) ++ [10] ++ []).length = (row (a, b)).length + 1 + ([] : List UInt8).length := by simp
  rw [hl] at hs
  obtain ⟨h1, h2⟩ := Nu.scan_joined hj
  cases hx : Nu.scan (ofBytes (row (a, b))) (row (a, b)).length with
  | error x => rw [h1 x hx] at hs; cases hs
  | ok ts =>
    obtain ⟨us, rfl, e⟩ := h2 ts hx
    rw [hs, show ([] : List UInt8).length = 0 from rfl, scan_none] at e
    simp only [Nu.on, Nu.pre, Except.ok.injEq] at e
    have e1 : Nu.toksFrom (two a b) 2 2 = [Nu.tokOf (two a b) 0, Nu.tokOf (two a b) 1, ⟨2, (row (a, b)).length, (row (a, b)).length + 1, 0⟩, ⟨3, ((row (a, b)).length + 1 : Nat), ((row (a, b)).length + 1 : Nat), 0⟩] := by simp [Nu.toksFrom, rowTo_two]
    rw [e1] at e
    have hus : us = [Nu.tokOf (two a b) 0, Nu.tokOf (two a b) 1] := by
      match us, e with
      | [], e => simp at e
      | [x], e => simp at e
      | [x, y], e => simp at e; simp [e.1, e.2.1]
      | x :: y :: z :: r, e => 
        have := congrArg List.length e
        simp at this
    rw [hus]
    simp [Nu.tokOf, Nu.startOf, rowTo_two, rowTo_one, two]
    simp [rowTo]

theorem toks_on (m : Nat) : ∀ (k : Nat) (ls : List (Int × Int)), (toks k ls).map (Tok.on m) = toks (k + m) ls
  | k, [] => by simp [toks, Tok.on]
  | k, p :: r => by
    simp only [toks, List.map_cons, toks_on m]
    simp only [Tok.on, List.cons.injEq, Tok.mk.injEq]
    have e : k + (row p).length + 1 + m = k + m + (row p).length + 1 := by omega
    rw [e]
    refine ⟨⟨?_, ?_, ?_, ?_⟩, ⟨?_, ?_, ?_, ?_⟩, ⟨?_, ?_, ?_, ?_⟩, ?_⟩ <;> first | trivial | rfl | omega

theorem body_cons (p : Int × Int) (r : List (Int × Int)) : body (p :: r) = row p ++ [10] ++ body r := by simp [body]

/-- The tokens of such a text. -/
theorem scan_body : ∀ (ls : List (Int × Int)), (∀ p ∈ ls, Small p) → Nu.scan (ofBytes (body ls)) (body ls).length = .ok (toks 0 ls)
  | [], _ => by simpa [body, toks] using scan_none
  | p :: r, h => by
    have ih := scan_body r (fun q hq => h q (List.mem_cons_of_mem _ hq))
    have hs := scan_two (h p List.mem_cons_self)
    have hj := joined_bytes (row p) (body r)
    obtain ⟨_, h2⟩ := Nu.scan_joined hj
    obtain ⟨us, hus, e⟩ := h2 _ hs
    have hl : (body (p :: r)).length = (row p).length + 1 + (body r).length := by rw [body_cons]; simp; omega
    rw [body_cons] at hl ⊢
    rw [hl, e, ih]
    have hu : us = [⟨1, 0, ((Lib.itoa p.1).length : Nat), p.1⟩, ⟨1, ((Lib.itoa p.1).length + 1 : Nat), ((row p).length : Nat), p.2⟩] := by
      have := congrArg List.dropLast hus
      simpa using this.symm
    rw [hu]
    simp only [Nu.on, Nu.pre, toks_on]
    simp [toks]

/-- The lines of such a text. -/
def lnsOf : Nat → List (Int × Int) → List (List Tok)
  | _, [] => []
  | k, p :: r => [⟨1, k, (k + (Lib.itoa p.1).length : Nat), p.1⟩, ⟨1, (k + ((Lib.itoa p.1).length + 1) : Nat), (k + (row p).length : Nat), p.2⟩] :: lnsOf (k + (row p).length + 1) r

theorem lns_toks : ∀ (k : Nat) (ls : List (Int × Int)), lns [] (toks k ls) = lnsOf k ls
  | k, [] => by simp [toks, lns, lnsOf]
  | k, p :: r => by
    simp only [toks, lnsOf]
    rw [lns_num rfl, lns_num rfl, lns_line (by simp) (by simp), lns_toks]
    rfl

/-- Pairs that fit are taken, one by one. -/
theorem go_pairs_in (N m : Int) (e : Int) : ∀ (ls : List (Int × Int)) (k : Nat) (ps : List (Int × Int)) (rest : List (List Tok)), (∀ p ∈ ls, p.1 < N ∧ p.2 < N) → (ps.length : Int) + ls.length ≤ m →
    go ⟨true, N, m, ps⟩ (lnsOf k ls ++ rest) e = go ⟨true, N, m, ps ++ ls⟩ rest e
  | [], k, ps, rest, _, _ => by simp [lnsOf]
  | p :: r, k, ps, rest, h, hm => by
    have hp := h p List.mem_cons_self
    simp only [lnsOf, List.cons_append]
    rw [go_ok (s' := ⟨true, N, m, ps ++ [p]⟩)]
    · rw [go_pairs_in N m e r _ (ps ++ [p]) rest (fun q hq => h q (List.mem_cons_of_mem _ hq)) (by simp at hm ⊢; omega)]
      simp
    · unfold line edge
      simp only [if_true]
      rw [if_neg (by simp at hm; omega), if_neg (by simp), if_neg (by simp [tk]; omega), if_neg (by simp [tk]; omega)]
      simp [tk]

theorem lnsOf_append : ∀ (k : Nat) (as bs : List (Int × Int)), lnsOf k (as ++ bs) = lnsOf k as ++ lnsOf (k + (body as).length) bs
  | k, [], bs => by simp [lnsOf, body]
  | k, p :: r, bs => by
    simp only [List.cons_append, lnsOf, lnsOf_append]
    rw [body_cons]
    simp
    congr 1
    omega

theorem raw_body {ls : List (Int × Int)} (h : ∀ p ∈ ls, Small p) (hl : (body ls).length ≤ 16777216) : raw (ofBytes (body ls)) (body ls).length = go s0 (lnsOf 0 ls) (body ls).length := by
  unfold raw
  rw [if_neg (by omega), scan_body ls h]
  show go s0 (lns [] (toks 0 ls)) _ = _
  rw [lns_toks]

theorem head_in {N m : Int} (hN : 0 ≤ N ∧ N ≤ 1048576) (hm : 0 ≤ m ∧ m ≤ 2097152) (k : Nat) (r : List (Int × Int)) (e : Int) : go s0 (lnsOf k ((N, m) :: r)) e = go ⟨true, N, m, []⟩ (lnsOf (k + (row (N, m)).length + 1) r) e := by
  simp only [lnsOf]
  refine go_ok ?_
  unfold line header
  rw [if_neg (by simp [s0]), if_neg (by simp), if_neg (by simp [tk]; omega), if_neg (by simp [tk]; omega)]
  simp [tk, s0]

section
variable {N : Int} {fit : List (Int × Int)}

theorem small_of (hN : 0 ≤ N ∧ N ≤ 1048576) (hf : ∀ p ∈ fit, (0 ≤ p.1 ∧ p.1 < N) ∧ 0 ≤ p.2 ∧ p.2 < N) : ∀ p ∈ fit, Small p := fun p hp => by
  have := hf p hp
  exact ⟨⟨this.1.1, by omega⟩, this.2.1, by omega⟩

/-- The text of a header and its pairs is read as it is. -/
theorem raw_written (hN : 0 ≤ N ∧ N ≤ 1048576) (hf : ∀ p ∈ fit, (0 ≤ p.1 ∧ p.1 < N) ∧ 0 ≤ p.2 ∧ p.2 < N) (hm : fit.length ≤ 2097152) (hl : (body ((N, (fit.length : Int)) :: fit)).length ≤ 16777216) :
    raw (ofBytes (body ((N, (fit.length : Int)) :: fit))) (body ((N, (fit.length : Int)) :: fit)).length = .ok ⟨true, N, fit.length, fit⟩ := by
  rw [raw_body _ hl]
  · rw [head_in hN (by omega)]
    have := go_pairs_in N fit.length ((body ((N, (fit.length : Int)) :: fit)).length : Int) fit (0 + (row (N, (fit.length : Int))).length + 1) [] [] (fun p hp => ⟨(hf p hp).1.2, (hf p hp).2.2⟩) (by simp)
    rw [List.append_nil] at this
    rw [this, go_nil]
    simp [fin]
  · intro p hp
    rcases List.mem_cons.1 hp with rfl | hp
    · exact ⟨by dsimp only; omega, by dsimp only; omega⟩
    · exact small_of hN hf p hp

/-- With a further line it is one too many, there. -/
theorem raw_more (hN : 0 ≤ N ∧ N ≤ 1048576) (hf : ∀ p ∈ fit, (0 ≤ p.1 ∧ p.1 < N) ∧ 0 ≤ p.2 ∧ p.2 < N) (hm : fit.length ≤ 2097152) (hl : (body ((N, (fit.length : Int)) :: (fit ++ [(0, 0)]))).length ≤ 16777216) :
    raw (ofBytes (body ((N, (fit.length : Int)) :: (fit ++ [(0, 0)])))) (body ((N, (fit.length : Int)) :: (fit ++ [(0, 0)]))).length = .error (26, ((body ((N, (fit.length : Int)) :: fit)).length : Nat)) := by
  rw [raw_body _ hl]
  · rw [head_in hN (by omega), lnsOf_append, go_pairs_in N fit.length _ fit _ [] _ (fun p hp => ⟨(hf p hp).1.2, (hf p hp).2.2⟩) (by simp)]
    simp only [lnsOf, List.nil_append]
    rw [go_error (x := (26, ((body ((N, (fit.length : Int)) :: fit)).length : Nat)))]
    unfold line edge
    simp only [if_true]
    simp [tk, body_cons]
    omega
  · intro p hp
    rcases List.mem_cons.1 hp with rfl | hp
    · exact ⟨by dsimp only; omega, by dsimp only; omega⟩
    · rcases List.mem_append.1 hp with hp | hp
      · exact small_of hN hf p hp
      · simp at hp; subst hp; exact ⟨by decide, by decide⟩

/-- Without the last line there are too few. -/
theorem raw_few {p : Int × Int} (hN : 0 ≤ N ∧ N ≤ 1048576) (hf : ∀ p ∈ fit, (0 ≤ p.1 ∧ p.1 < N) ∧ 0 ≤ p.2 ∧ p.2 < N) (hm : fit.length + 1 ≤ 2097152) (hl : (body ((N, ((fit ++ [p]).length : Int)) :: fit)).length ≤ 16777216) :
    raw (ofBytes (body ((N, ((fit ++ [p]).length : Int)) :: fit))) (body ((N, ((fit ++ [p]).length : Int)) :: fit)).length = .error (25, ((body ((N, ((fit ++ [p]).length : Int)) :: fit)).length : Nat)) := by
  rw [raw_body _ hl]
  · rw [head_in hN (by simp; omega)]
    have := go_pairs_in N ((fit ++ [p]).length : Int) ((body ((N, ((fit ++ [p]).length : Int)) :: fit)).length : Int) fit (0 + (row (N, ((fit ++ [p]).length : Int))).length + 1) [] [] (fun p hp => ⟨(hf p hp).1.2, (hf p hp).2.2⟩) (by simp; omega)
    rw [List.append_nil] at this
    rw [this, go_nil]
    unfold fin
    rw [if_neg (by simp), if_pos (by simp; omega)]
  · intro q hq
    rcases List.mem_cons.1 hq with rfl | hq
    · exact ⟨by dsimp only; omega, by simp; omega⟩
    · exact small_of hN hf q hq

end

end Pa
end Go.Proofs.YtmgjfakdjponoabDoor
