/-
  Edges that came in.
-/
import Derived.Test.YtfjgmbimapkabaaDoorMg23
import Derived.Test.YtfjgmbimapkabaaDoorSiIn
import Derived.Deep.Slices
namespace Go.Proofs.YtfjgmbimapkabaaDoor
open Go.ChangeShapes Go.WideShapes Go.ChangeAt Go.RowKit

theorem bytesEdge : Tryd.prog.bytesOf 55 = 16 := by kernel_rfl
theorem cellsEdges : Tryd.prog.cellsOf 25 = 1 := by kernel_rfl

section
variable {H : Type} {enc : TypeId × Value → H} {W : World} {base : Nat} {sp : Nat → Bool} {held : Bool}

/-- Two numbers, read. -/
def TwoInts (cs : List Value) : Prop := ∃ a b : Int, cs = [.int .i64 a, .int .i64 b] ∧ In64 (a, b)

theorem two_of_ints {fuel : Nat} {cs : List Value} {x y : DataW H × List MemPlace} (hl : cs.length = 2) (h0 : DataW.trod enc Tryd.prog W base sp held fuel 3 ((cs.drop 0).take 1) = some x) (h1 : DataW.trod enc Tryd.prog W base sp held fuel 3 ((cs.drop 1).take 1) = some y) : TwoInts cs := by
  match cs, hl with
  | [u, v], _ =>
    obtain ⟨a, e0, _, w0⟩ := DataW.trod_int Tryd.underlying3 h0
    obtain ⟨b, e1, _, w1⟩ := DataW.trod_int Tryd.underlying3 h1
    simp at e0 e1
    subst e0
    subst e1
    exact ⟨a, b, rfl, bounds_i64 w0, bounds_i64 w1⟩

theorem two_arr {e t : TypeId} (he : Tryd.prog.underlying e = some (.array 2 t)) (ce : Tryd.prog.cellsOf e = 2) (ht : t = 3) {fuel : Nat} {cs : List Value} {x : DataW H × List MemPlace} (h : DataW.trod enc Tryd.prog W base sp held fuel e cs = some x) : TwoInts cs := by
  subst ht
  obtain ⟨xs, m, _, _, hl, hx, hf⟩ := DataW.trod_array he h
  rw [ce] at hl
  match xs, hx with
  | [y0, y1], _ =>
    have g0 := hf 0 (by omega)
    have g1 := hf 1 (by omega)
    simp only [cellsIntK] at g0 g1
    exact two_of_ints hl g0 g1

theorem two_struct {e : TypeId} {f0 f1 : Field} (he : Tryd.prog.underlying e = some (.struct #[f0, f1])) (ce : Tryd.prog.cellsOf e = 2) (o0 : f0.offset = 0) (o1 : f1.offset = 1) (t0 : f0.type = 3) (t1 : f1.type = 3)
    {fuel : Nat} {cs : List Value} {x : DataW H × List MemPlace} (h : DataW.trod enc Tryd.prog W base sp held fuel e cs = some x) : TwoInts cs := by
  obtain ⟨xs, m, _, _, hl, hx, hf⟩ := DataW.trod_struct he h
  rw [ce] at hl
  match xs, hx with
  | [y0, y1], _ =>
    have g0 := hf 0 f0 rfl
    have g1 := hf 1 f1 rfl
    simp only [o0, o1, t0, t1, cellsIntK] at g0 g1
    exact two_of_ints hl g0 g1

theorem two_edge {fuel : Nat} {cs : List Value} {x : DataW H × List MemPlace} (h : DataW.trod enc Tryd.prog W base sp held fuel 55 cs = some x) : TwoInts cs := two_struct Tryd.underlying55 cellsEdge rfl rfl rfl rfl h

/-- What is known of a list of pairs that came in. -/
structure PairsIn (w : World) (ao : Option Addr) (len cap : Nat) (qs : List (Int × Int)) : Prop where
  hlen : qs.length = len
  hat : EdgesAt w ao qs
  hnil : ao = none → qs = [] ∧ cap = 0
  hwf : ∀ (j : Nat) (p : Int × Int), qs[j]? = some p → In64 p
  hfit : len ≤ cap

theorem pairs_in {t e : TypeId} {fuel : Nat} {a : Option Addr} {len cap : Nat} {x : DataW H × List MemPlace} (ht : Tryd.prog.underlying t = some (.slice e)) (ce : Tryd.prog.cellsOf e = 2)
    (hel : ∀ (n : Nat) (cs : List Value) (y : DataW H × List MemPlace), DataW.trod enc Tryd.prog W base (fun _ => true) held n e cs = some y → TwoInts cs) (h : DataW.trod enc Tryd.prog W base (fun _ => true) held fuel t [.slice a len cap] = some x) :
    ∃ qs, PairsIn W a len cap qs ∧ ((x.1 = .nil ∧ qs = []) ∨ ∃ es rest, x.1 = .slice es rest ∧ len ≤ es.length) := by
  rcases Deep.open_slice ht h with ⟨hcs, hx⟩ | ⟨ad, l, c, m, n, D, Pl, hcs, _, hl, hm, hmm, rfl, hcell⟩
  · simp at hcs
    obtain ⟨rfl, rfl, rfl⟩ := hcs
    subst hx
    exact ⟨[], ⟨rfl, EdgesAt.nil _ _, fun _ => ⟨rfl, rfl⟩, fun j p hj => by simp at hj, Nat.le_refl _⟩, .inl ⟨rfl, rfl⟩⟩
  · simp at hcs
    obtain ⟨rfl, rfl, rfl⟩ := hcs
    have hmc : m = cap := by simpa using hmm
    have each : ∀ i, i < m → ∃ q : Int × Int, W.cell? (ad.add (i * 2)) = some (.int .i64 q.1) ∧ W.cell? (ad.add (i * 2 + 1)) = some (.int .i64 q.2) ∧ In64 q := fun i hi => by
      obtain ⟨cs', h1, h2⟩ := hcell i hi
      rw [ce] at h1
      obtain ⟨_, hlen, hc⟩ := World.cells?_some h1
      obtain ⟨u, v, rfl, hw⟩ := hel n cs' _ h2
      have e0 := hc 0 (by omega)
      have e1 := hc 1 (by omega)
      rw [Deep.add_add] at e0 e1
      exact ⟨(u, v), by simpa using e0, by simpa using e1, hw⟩
    obtain ⟨q, hq⟩ := Deep.choose_lt each
    refine ⟨(List.range len).map q, ⟨by simp, fun j p hj => ?_, fun h => (by cases h), fun j p hj => ?_, hl⟩, .inr ⟨_, _, rfl, by simp⟩⟩
    · have hi : j < len := by
        have := (List.getElem?_eq_some_iff.1 hj).1
        simpa using this
      simp [hi] at hj
      subst hj
      obtain ⟨c0, c1, _⟩ := hq j (by omega)
      obtain ⟨b, o, s⟩ := ad
      have hsp : s = none := by
        obtain ⟨c00, _⟩ := hq 0 (by omega)
        simpa [Addr.add] using World.cell?_spot c00
      subst hsp
      have ea : ∀ k, ((⟨b, o, none⟩ : Addr).add k) = ⟨b, o + k, none⟩ := fun k => by
        by_cases h0 : k = 0 <;> simp [Addr.add, h0]
      rw [ea] at c0 c1
      exact ⟨b, o, rfl, c0, by rw [← Nat.add_assoc] at c1; exact c1⟩
    · have hi : j < len := by
        have := (List.getElem?_eq_some_iff.1 hj).1
        simpa using this
      simp [hi] at hj
      subst hj
      exact (hq j (by omega)).2.2

end

set_option maxRecDepth 100000 in
/-- An edge that came in. -/
theorem edge_of_trod {H : Type} {enc : TypeId × Value → H} {W : World} {base : Nat} {v : Value} {d : DataW H} {p : List MemPlace} (hval : Value.okWide Tryd.prog W .any base 55 v)
    (h : DataW.Trod enc Tryd.prog W 0 (fun _ => true) true 55 v d p) : ∃ q : Int × Int, v = edgeVal q ∧ In64 q := by
  obtain ⟨cs, rfl, hcs⟩ := okWide_struct Tryd.underlying55 hval
  rw [cellsEdge] at hcs
  obtain ⟨fuel, hf⟩ := h
  obtain ⟨cl⟩ := cs
  match cl, hcs with
  | [u, v], _ =>
    obtain ⟨a, b, e, hw⟩ := two_edge hf
    simp [Value.cells] at e
    obtain ⟨rfl, rfl⟩ := e
    exact ⟨(a, b), rfl, hw⟩

end Go.Proofs.YtfjgmbimapkabaaDoor
