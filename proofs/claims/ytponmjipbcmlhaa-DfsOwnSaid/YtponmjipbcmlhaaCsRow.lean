/-
  A list of edges of one's own, cell by cell; the document's own Same.
-/
import Derived.Test.YtponmjipbcmlhaaSiOwn
import Derived.Test.YtponmjipbcmlhaaSiEq
import Derived.Test.YtponmjipbcmlhaaSiValid
import Derived.Test.YtponmjipbcmlhaaSiTake
import Derived.Deep.QuietTactic
import Derived.BigQuiet
namespace Go.Proofs.Ytponmjipbcmlhaa
open Go.RowKit

theorem flatE_set : ∀ (ps : List (Int × Int)) (j : Nat) (p : Int × Int), flatE (ps.set j p) = ((flatE ps).set (j * 2) (.int .i64 p.1)).set (j * 2 + 1) (.int .i64 p.2)
  | [], j, p => by simp [flatE]
  | q :: ps, 0, p => by simp [flatE]
  | q :: ps, j + 1, p => by
    have ih := flatE_set ps j p
    have e : (j + 1) * 2 = j * 2 + 1 + 1 := by omega
    rw [e]
    simp only [flatE, List.set_cons_succ, List.flatMap_cons, List.cons_append, List.nil_append] at ih ⊢
    rw [ih]

/-- A row of n edges at ⟨g, o⟩ with the cells xs, laid since block B. -/
def ER (w : World) (B g o n cap : Nat) (xs : List Value) : Prop := o = 0 ∧ w.ownsRow B 39 2 (.slice (some ⟨g, o, none⟩) n cap) n xs

theorem ER.cell {w : World} {B g o n cap : Nat} {xs : List Value} (h : ER w B g o n cap xs) {i : Nat} {u : Value} (hu : xs[i]? = some u) : w.cell? ⟨g, o + i, none⟩ = some u := by
  obtain ⟨rfl, h⟩ := h
  have := World.ownsRow.cells h (g := g) rfl i u hu
  rw [addrE] at this
  rw [Nat.zero_add]
  exact this

theorem ER.free {w : World} {B g o n cap : Nat} {xs : List Value} (h : ER w B g o n cap xs) : ∀ i, w.frozen? ⟨g, i, none⟩ = false := by
  obtain ⟨rfl, h⟩ := h
  exact fun i => h.frozenAt i

theorem ER.set {w : World} {B g o n cap : Nat} {xs : List Value} (h : ER w B g o n cap xs) (i : Nat) (u : Value) : ER (w.setCell ⟨g, o + i, none⟩ u) B g o n cap (xs.set i u) ∧ w.grownBy (w.setCell ⟨g, o + i, none⟩ u) (some g) := by
  obtain ⟨rfl, h⟩ := h
  refine ⟨⟨rfl, ?_⟩, ?_⟩
  · rw [Nat.zero_add]
    exact (h.stored i u).1
  · rw [Nat.zero_add]
    exact (h.stored i u).2

theorem ER.own {w : World} {B g o n cap : Nat} {ps : List (Int × Int)} (h : ER w B g o n cap (flatE ps)) (hn : ps.length = n) : OwnE w B (.slice (some ⟨g, o, none⟩) n cap) ps := by
  subst hn
  exact h.2

theorem OwnE.row {w : World} {B : Nat} {v : Value} {ps : List (Int × Int)} (h : OwnE w B v ps) (hn : 0 < ps.length) : ∃ g o cap, v = .slice (Option.some ⟨g, o, none⟩) ps.length cap ∧ ER w B g o ps.length cap (flatE ps) := by
  rcases h.2 with ⟨rfl, h0⟩ | ⟨g, cap, cur, rfl, _⟩
  · omega
  · exact ⟨g, 0, cap, rfl, rfl, h⟩

theorem ER.some {w : World} {B g o n cap : Nat} {xs : List Value} (h : ER w B g o n cap xs) {i : Nat} (hi : i < xs.length) : ∃ u, w.cell? ⟨g, o + i, none⟩ = Option.some u := ⟨_, h.cell (List.getElem?_eq_getElem hi)⟩

theorem ER.pair {w : World} {B g o n cap : Nat} {ps : List (Int × Int)} (h : ER w B g o n cap (flatE ps)) {j : Nat} (hj : j < ps.length) (p : Int × Int) :
    ER ((w.setCell ⟨g, o + j * 2, none⟩ (.int .i64 p.1)).setCell ⟨g, o + j * 2 + 1, none⟩ (.int .i64 p.2)) B g o n cap (flatE (ps.set j p)) ∧
    w.grownBy ((w.setCell ⟨g, o + j * 2, none⟩ (.int .i64 p.1)).setCell ⟨g, o + j * 2 + 1, none⟩ (.int .i64 p.2)) (Option.some g) ∧
    (∃ u, w.cell? ⟨g, o + j * 2, none⟩ = Option.some u) ∧ (∃ u, (w.setCell ⟨g, o + j * 2, none⟩ (.int .i64 p.1)).cell? ⟨g, o + j * 2 + 1, none⟩ = Option.some u) ∧
    w.frozen? ⟨g, o + j * 2, none⟩ = false ∧ (w.setCell ⟨g, o + j * 2, none⟩ (.int .i64 p.1)).frozen? ⟨g, o + j * 2 + 1, none⟩ = false := by
  have hl := flatE_length ps
  have h1 := h.set (j * 2) (.int .i64 p.1)
  have h2 := h1.1.set (j * 2 + 1) (.int .i64 p.2)
  refine ⟨?_, h1.2.trans h2.2, h.some (i := j * 2) (by omega), h1.1.some (i := j * 2 + 1) (by rw [List.length_set]; omega), h.free _, h1.1.free _⟩
  rw [flatE_set]
  exact h2.1

theorem owne_snoc {w : World} {B m : Nat} {v : Value} {ps : List (Int × Int)} {p : Int × Int} (hm : ps.length = m) (h : w.ownsRow B 39 2 v (m + 1) (flatE ps ++ [.int .i64 p.1, .int .i64 p.2])) : OwnE w B v (ps ++ [p]) := by
  subst hm
  unfold OwnE
  rw [flatE_snoc, List.length_append]
  exact h


theorem own_block {w : World} {B g k c : Nat} {es : List (Int × Int)} (h : OwnE w B (.slice (some ⟨g, 0, none⟩) k c) es) : es.length = k ∧ es.length ≤ c ∧ B ≤ g ∧ ∃ cur, w.heap[g]? = some (.cells cur 39 (0, 0)) := by
  rcases h.2 with ⟨h, _⟩ | ⟨g', cap, cur, e, hb, hh, hc, _⟩
  · cases h
  · simp at e
    obtain ⟨rfl, rfl, rfl⟩ := e
    exact ⟨rfl, hc, hb, cur, hh⟩

theorem own_same {w w' : World} {B : Nat} {v : Value} {es : List (Int × Int)} (h : OwnE w B v es) (hk : ∀ g, v.ownBlock = some g → w'.heap[g]? = w.heap[g]?) : OwnE w' B v es := by
  refine ⟨h.1, ?_⟩
  rcases h.2 with h | ⟨g, cap, cur, e, hgB, hh, hr⟩
  · exact .inl h
  · exact .inr ⟨g, cap, cur, e, hgB, (hk g (by rw [e]; rfl)).trans hh, hr⟩

theorem own_first {w : World} {B g c : Nat} {es : List (Int × Int)} {p : Int × Int} (h : OwnE w B (.slice (some ⟨g, 0, none⟩) (es.length + 1) c) (es ++ [p])) : EdgesAt w (some ⟨g, 0, none⟩) es ∧ w.cell? ⟨g, es.length * 2, none⟩ = some (.int .i64 p.1) ∧ w.cell? ⟨g, es.length * 2 + 1, none⟩ = some (.int .i64 p.2) := by
  obtain ⟨ao, cap, e, _, _, hat, _⟩ := h.form
  rw [List.length_append, List.length_singleton] at e
  cases e
  refine ⟨fun j q hj => hat j q ?_, ?_⟩
  · rw [List.getElem?_append_left (List.getElem?_eq_some_iff.1 hj).1]
    exact hj
  · obtain ⟨b, o, e, h0, h1⟩ := hat es.length p (by simp)
    cases e
    simp only [Nat.zero_add] at h0 h1
    exact ⟨h0, h1⟩

set_option maxRecDepth 100000 in
set_option maxHeartbeats 4000000 in
/-- Two graphs with the same edges are the same. -/
theorem r4same_any (n : Int) (ao bo : Option Addr) (ca cb : Nat) (es : List (Int × Int)) (w : World) (he : EdgesAt w ao es) (hf : EdgesAt w bo es) (hl : es.length ≤ 4611686018427387904) :
    Calls Try.prog 23 #[graphVal n ao es.length ca, graphVal n bo es.length cb] w fun e w' => e = .returned (.bool true) ∧ Below w.heap.size w w' := by
  have HE := Nu.hid he
  have HF := Nu.hid hf
  have j0 : (n != n) = false := by simp
  have j1 : ((es.length : Int) != (es.length : Int)) = false := by simp
  clear he hf
  unfold graphVal
  go_enter Try.func23, Try.ntmps23
  go_wp2
  go_loopw [5] (fun c wr => ∃ k : Nat, k ≤ es.length ∧ c = .int .i64 k ∧ wr.heap[w.heap.size]? = some (.cells #[.int .i64 n, .slice ao es.length ca] 24 (0, 0)) ∧ wr.heap[w.heap.size + 1]? = some (.cells #[.int .i64 n, .slice bo es.length cb] 24 (0, 0)) ∧ Below w.heap.size w wr) (fun c _ => es.length - (intOf c).toNat)
  case atStart =>
    refine ⟨0, Nat.zero_le _, rfl, ?_, ?_, ((Below.refl _ _).alloc (Nat.le_refl _) _).alloc (by simp) _⟩
    · rw [Below.heap_alloc _ _ _ (by simp)]
      exact heap_alloc_new w _
    · have := heap_alloc_new (w.alloc (.cells #[.int .i64 n, .slice ao es.length ca] 24)) (.cells #[.int .i64 n, .slice bo es.length cb] 24)
      simpa using this
  case round =>
    obtain ⟨k, hk, rfl, g1, g2, hb⟩ := hrel
    obtain ⟨-, a1, -⟩ := pair_cells g1
    obtain ⟨-, b1, -⟩ := pair_cells g2
    have HG1 := Nu.hid g1
    have HG2 := Nu.hid g2
    have HB := Nu.hid hb
    clear g1 g2
    by_cases hlt : k < es.length
    · have hlti : (k : Int) < (es.length : Int) := by omega
      have hk0 : (0 : Int) ≤ (k : Int) := by omega
      obtain ⟨p, hp⟩ : ∃ p, es[k]? = some p := ⟨_, List.getElem?_eq_getElem hlt⟩
      obtain ⟨b, o, rfl, c0, c1⟩ := (HE.out.later hb) k p hp
      obtain ⟨b', o', rfl, d0, d1⟩ := (HF.out.later hb) k p hp
      have eqP := eqEdge
      have t1 : (p.1 == p.1 && p.2 == p.2) = true := by simp
      clear hp hb
      go_wp2_with fail
      go_quiet (fail)
      clear eqP
      go_wp2
      go_roundw
      case rel => exact ⟨k + 1, by omega, by go_num, HG1.out, HG2.out, below_drewN HB.out _⟩
      case measure => simp [intOf]; omega
    · have hd : ¬ ((k : Int) < (es.length : Int)) := by omega
      clear hb
      go_wp2
      go_ret
      exact ⟨rfl, HB.out⟩

end Go.Proofs.Ytponmjipbcmlhaa
