/-
  Cells of a list of pairs that a call made itself, one by one; what stores into it leave.
-/
import Derived.Test.YtmgjfakdjponoabDoorSiPairs
import Derived.Test.YtmgjfakdjponoabDoorSiMake
import Derived.Test.YtmgjfakdjponoabDoorSiShuf
namespace Go.Proofs.YtmgjfakdjponoabDoor
open Go.RowKit

theorem flatE_set : ∀ (ps : List (Int × Int)) (j : Nat) (p : Int × Int), flatE (ps.set j p) = ((flatE ps).set (j * 2) (.int .i64 p.1)).set (j * 2 + 1) (.int .i64 p.2)
  | [], j, p => by simp [flatE]
  | q :: ps, 0, p => by simp [flatE]
  | q :: ps, j + 1, p => by
    have ih := flatE_set ps j p
    have e : (j + 1) * 2 = j * 2 + 1 + 1 := by omega
    rw [e]
    simp only [flatE, List.set_cons_succ, List.flatMap_cons, List.cons_append, List.nil_append] at ih ⊢
    rw [ih]

/-- A row of n pairs at ⟨g, o⟩ with the cells xs, laid since block B. -/
def PR (w : World) (B g o n cap : Nat) (xs : List Value) : Prop := o = 0 ∧ w.ownsRow B 34 2 (.slice (some ⟨g, o, none⟩) n cap) n xs

theorem PR.cell {w : World} {B g o n cap : Nat} {xs : List Value} (h : PR w B g o n cap xs) {i : Nat} {u : Value} (hu : xs[i]? = some u) : w.cell? ⟨g, o + i, none⟩ = some u := by
  obtain ⟨rfl, h⟩ := h
  have := World.ownsRow.cells h (g := g) rfl i u hu
  rw [addrE] at this
  rw [Nat.zero_add]
  exact this

theorem PR.free {w : World} {B g o n cap : Nat} {xs : List Value} (h : PR w B g o n cap xs) : ∀ i, w.frozen? ⟨g, i, none⟩ = false := by
  obtain ⟨rfl, h⟩ := h
  exact fun i => h.frozenAt i

theorem PR.set {w : World} {B g o n cap : Nat} {xs : List Value} (h : PR w B g o n cap xs) (i : Nat) (u : Value) : PR (w.setCell ⟨g, o + i, none⟩ u) B g o n cap (xs.set i u) := by
  obtain ⟨rfl, h⟩ := h
  refine ⟨rfl, ?_⟩
  rw [Nat.zero_add]
  exact (h.stored i u).1

theorem PR.drew {w : World} {B g o n cap : Nat} {xs : List Value} (h : PR w B g o n cap xs) : PR w.drew B g o n cap xs := ⟨h.1, h.2.drew⟩

theorem PR.lt {w : World} {B g o n cap : Nat} {xs : List Value} (h : PR w B g o n cap xs) : B ≤ g ∧ g < w.heap.size := by
  have := World.ownsRow.lt h.2 g (by simp [Value.ownBlock])
  exact this

theorem PR.own {w : World} {B g o n cap : Nat} {ps : List (Int × Int)} (h : PR w B g o n cap (flatE ps)) (hn : ps.length = n) : OwnP w B (.slice (some ⟨g, o, none⟩) n cap) ps := by
  subst hn
  exact h.2

theorem OwnP.row {w : World} {B : Nat} {v : Value} {ps : List (Int × Int)} (h : OwnP w B v ps) (hn : 0 < ps.length) : ∃ g o cap, v = .slice (Option.some ⟨g, o, none⟩) ps.length cap ∧ PR w B g o ps.length cap (flatE ps) := by
  rcases h.2 with ⟨rfl, h0⟩ | ⟨g, cap, cur, rfl, _⟩
  · omega
  · exact ⟨g, 0, cap, rfl, rfl, h⟩

/-- The cells of the pair at j. -/
theorem PR.at {w : World} {B g o n cap : Nat} {ps : List (Int × Int)} (h : PR w B g o n cap (flatE ps)) {j : Nat} {p : Int × Int} (hp : ps[j]? = some p) : w.cell? ⟨g, o + j * 2, none⟩ = some (.int .i64 p.1) ∧ w.cell? ⟨g, o + j * 2 + 1, none⟩ = some (.int .i64 p.2) :=
  ⟨h.cell (flatE_at ps j p hp).1, h.cell (flatE_at ps j p hp).2⟩

/-- Something lies in every cell within the row's length. -/
theorem PR.some {w : World} {B g o n cap : Nat} {xs : List Value} (h : PR w B g o n cap xs) {i : Nat} (hi : i < xs.length) : ∃ u, w.cell? ⟨g, o + i, none⟩ = Option.some u := ⟨_, h.cell (List.getElem?_eq_getElem hi)⟩

/-- A pair stored at j, cell by cell: what the walk asks on its way. -/
theorem PR.pair {w : World} {B g o n cap : Nat} {ps : List (Int × Int)} (h : PR w B g o n cap (flatE ps)) {j : Nat} (hj : j < ps.length) (p : Int × Int) :
    PR ((w.setCell ⟨g, o + j * 2, none⟩ (.int .i64 p.1)).setCell ⟨g, o + j * 2 + 1, none⟩ (.int .i64 p.2)) B g o n cap (flatE (ps.set j p)) ∧
    (∃ u, w.cell? ⟨g, o + j * 2, none⟩ = Option.some u) ∧ (∃ u, (w.setCell ⟨g, o + j * 2, none⟩ (.int .i64 p.1)).cell? ⟨g, o + j * 2 + 1, none⟩ = Option.some u) ∧
    w.frozen? ⟨g, o + j * 2, none⟩ = false ∧ (w.setCell ⟨g, o + j * 2, none⟩ (.int .i64 p.1)).frozen? ⟨g, o + j * 2 + 1, none⟩ = false := by
  have hl := flatE_length ps
  have h1 := h.set (j * 2) (.int .i64 p.1)
  have h2 := h1.set (j * 2 + 1) (.int .i64 p.2)
  refine ⟨?_, h.some (i := j * 2) (by omega), h1.some (i := j * 2 + 1) (by rw [List.length_set]; omega), h.free _, h1.free _⟩
  rw [flatE_set]
  exact h2

theorem Si.Shuf.mkd {n : Int} {es ps : List (Int × Int)} (h : Si.Shuf n es ps) (hv : Si.Val n es) : Si.mk n ps = (n, es, 0) := by
  have h1 := hv.few
  have h2 := hv.lo
  have h3 := hv.hi
  have hin : Si.inside n ps = true := Si.inside_yes fun _ p hj => h.inn p (List.mem_of_getElem? hj)
  unfold Si.mk
  rw [h.made hv, if_neg (by rw [hin]; simp; omega), if_neg (by omega)]

/-- Two pairs exchanged, the one at j turned about, the one at k doubled. -/
theorem Si.Shuf.step {n : Int} {es ps : List (Int × Int)} {j k : Nat} {a b : Int × Int} (h : Si.Shuf n es ps) (ha : ps[j]? = some a) (hb : ps[k]? = some b) :
    ∃ c d, ((ps.set j b).set k a)[j]? = some c ∧ (((ps.set j b).set k a).set j (c.2, c.1))[k]? = some d ∧ Si.Shuf n es ((((ps.set j b).set k a).set j (c.2, c.1)) ++ [d]) := by
  have hj : j < ps.length := (List.getElem?_eq_some_iff.1 ha).1
  have hk : k < ps.length := (List.getElem?_eq_some_iff.1 hb).1
  have h1 : Si.Shuf n es ((ps.set j b).set k a) := h.like fun p => Si.mem_swap ha hb p
  obtain ⟨c, hc⟩ : ∃ c, ((ps.set j b).set k a)[j]? = some c := ⟨_, List.getElem?_eq_getElem (by simp; exact hj)⟩
  have h2 := h1.flip hc
  obtain ⟨d, hd⟩ : ∃ d, (((ps.set j b).set k a).set j (c.2, c.1))[k]? = some d := ⟨_, List.getElem?_eq_getElem (by simp; exact hk)⟩
  exact ⟨c, d, hc, hd, h2.more (List.mem_of_getElem? hd)⟩

end Go.Proofs.YtmgjfakdjponoabDoor
