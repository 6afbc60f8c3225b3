/-
  Items (a key and a name): in memory, in lists of one's own, under '=='.
-/
import Derived.Test.YtofphdmebjcofaaDoorBuLst
import Derived.Laws.AppendOwnNone
namespace Go.Proofs.YtofphdmebjcofaaDoor
open Go.RowKit

theorem Tryd.infoItem : (Tryd.prog.info? 27).map (fun i => (i.zero, i.size, i.bytes)) = some (some (.agg #[.int .i64 0, .string ByteArray.empty]), 2, 24) := by kernel_rfl

abbrev Item := Int × ByteArray
def itemVal (p : Item) : Value := .agg #[.int .i64 p.1, .string p.2]
def flatT (ps : List Item) : List Value := ps.flatMap fun p => [.int .i64 p.1, .string p.2]

theorem flatT_snoc (ps : List Item) (p : Item) : flatT (ps ++ [p]) = flatT ps ++ [.int .i64 p.1, .string p.2] := by simp [flatT]

theorem flatT_length : ∀ ps : List Item, (flatT ps).length = ps.length * 2
  | [] => rfl
  | p :: ps => by
    have := flatT_length ps
    simp [flatT] at this ⊢
    omega

theorem flatT_at : ∀ (ps : List Item) (j : Nat) (p : Item), ps[j]? = some p → (flatT ps)[j * 2]? = some (.int .i64 p.1) ∧ (flatT ps)[j * 2 + 1]? = some (.string p.2)
  | [], j, p, h => by simp at h
  | q :: ps, 0, p, h => by
    simp at h
    subst h
    simp [flatT]
  | q :: ps, j + 1, p, h => by
    simp at h
    have := flatT_at ps j p h
    have e : (j + 1) * 2 = j * 2 + 1 + 1 := by omega
    rw [e]
    simpa [flatT] using this

theorem flatT_set : ∀ (ps : List Item) (j : Nat) (p : Item), flatT (ps.set j p) = ((flatT ps).set (j * 2) (.int .i64 p.1)).set (j * 2 + 1) (.string p.2)
  | [], j, p => by simp [flatT]
  | q :: ps, 0, p => by simp [flatT]
  | q :: ps, j + 1, p => by
    have ih := flatT_set ps j p
    have e : (j + 1) * 2 = j * 2 + 1 + 1 := by omega
    rw [e]
    simp only [flatT, List.set_cons_succ, List.flatMap_cons, List.cons_append, List.nil_append] at ih ⊢
    rw [ih]

theorem flatT_one : ∀ (ps : List Item), ∀ u ∈ flatT ps, u.oneCell' = true := fun ps u hu => by
  obtain ⟨p, _, h⟩ := List.mem_flatMap.1 hu
  simp at h
  rcases h with rfl | rfl <;> simp [Value.oneCell']

theorem addrT (g j : Nat) : ((⟨g, 0, none⟩ : Addr).add j) = ⟨g, j, none⟩ := by
  by_cases h : j = 0 <;> simp [Addr.add, h]

/-- The items l lie at ao. -/
def ItemsAt (w : World) (ao : Option Addr) (l : List Item) : Prop :=
  ∀ (j : Nat) (p : Item), l[j]? = some p → ∃ b o : Nat, ao = some ⟨b, o, none⟩ ∧ w.cell? ⟨b, o + j * 2, none⟩ = some (.int .i64 p.1) ∧ w.cell? ⟨b, o + j * 2 + 1, none⟩ = some (.string p.2)

theorem ItemsAt.same {w w' : World} {ao : Option Addr} {l : List Item} (h : ItemsAt w ao l) (hb : ∀ x, ao = some x → x.block < w.heap.size → w'.heap[x.block]? = w.heap[x.block]?) : ItemsAt w' ao l := fun j p hj => by
  obtain ⟨b, o, e, h0, h1⟩ := h j p hj
  have hl : b < w.heap.size := block_lt_of_cell h0
  have hbb : w'.heap[b]? = w.heap[b]? := hb _ e hl
  refine ⟨b, o, e, ?_, ?_⟩
  · rw [← h0]; simp only [World.cell?]; rw [hbb]
  · rw [← h1]; simp only [World.cell?]; rw [hbb]
theorem ItemsAt.later {w w' : World} {ao : Option Addr} {l : List Item} (h : ItemsAt w ao l) (hb : Below w.heap.size w w') : ItemsAt w' ao l := h.same fun x _ hl => hb.block x.block hl

/-- v is a list of the items l, in memory of its own, laid since block B. -/
def OwnT (w : World) (B : Nat) (v : Value) (l : List Item) : Prop := w.ownsRow B 27 2 v l.length (flatT l)

section
variable {w w' : World} {B : Nat} {v : Value} {l : List Item}
theorem OwnT.nil (w : World) (B : Nat) : OwnT w B (.slice none 0 0) [] := World.ownsRow_nil _ _ _ _
theorem OwnT.form (h : OwnT w B v l) : ∃ ao cap, v = .slice ao l.length cap ∧ ItemsAt w ao l ∧ (ao = none → l.length = 0 ∧ cap = 0) ∧ (∀ x, ao = some x → B ≤ x.block ∧ x.block < w.heap.size) := by
  have h' := h
  unfold OwnT at h'
  rcases h.2 with ⟨rfl, h0⟩ | ⟨g, cap, cur, rfl, hg, hh, hc, hm, _⟩
  · refine ⟨none, 0, by rw [h0], fun j p hj => ?_, fun _ => ⟨h0, rfl⟩, fun x h => by cases h⟩
    rw [List.length_eq_zero_iff.1 h0] at hj
    simp at hj
  · refine ⟨_, cap, rfl, fun j p hj => ⟨g, 0, rfl, ?_⟩, (fun e => nomatch e), (fun x h => by cases h; exact ⟨hg, lt_of_block hh⟩)⟩
    have hcl := World.ownsRow.cells h' (g := g) rfl
    simp only [addrT] at hcl
    obtain ⟨h0, h1⟩ := flatT_at l j p hj
    rw [Nat.zero_add]
    exact ⟨hcl _ _ h0, hcl _ _ h1⟩
theorem OwnT.same (h : OwnT w B v l) (hb : ∀ g, v.ownBlock = some g → g < w.heap.size → w'.heap[g]? = w.heap[g]?) : OwnT w' B v l := by
  refine ⟨h.1, ?_⟩
  rcases h.2 with h | ⟨g, cap, cur, e1, hgB, hh, hr⟩
  · exact .inl h
  · exact .inr ⟨g, cap, cur, e1, hgB, (hb g (by rw [e1]; rfl) (lt_of_block hh)).trans hh, hr⟩
theorem OwnT.later (h : OwnT w B v l) (hb : Below w.heap.size w w') : OwnT w' B v l := h.same fun g _ hl => hb.block g hl
end

/-- A row of n items in block g with the cells xs, laid since block B. -/
def TR (w : World) (B g n cap : Nat) (xs : List Value) : Prop := w.ownsRow B 27 2 (.slice (some ⟨g, 0, none⟩) n cap) n xs

theorem TR.cell {w : World} {B g n cap : Nat} {xs : List Value} (h : TR w B g n cap xs) {i : Nat} {u : Value} (hu : xs[i]? = some u) : w.cell? ⟨g, i, none⟩ = some u := by
  have := World.ownsRow.cells h (g := g) rfl i u hu
  rw [addrT] at this
  exact this
theorem TR.set {w : World} {B g n cap : Nat} {xs : List Value} (h : TR w B g n cap xs) (i : Nat) (u : Value) : TR (w.setCell ⟨g, i, none⟩ u) B g n cap (xs.set i u) := (h.stored i u).1
theorem TR.pair {w : World} {B g n cap : Nat} {ps : List Item} (h : TR w B g n cap (flatT ps)) {j : Nat} (hj : j < ps.length) (p : Item) :
    TR ((w.setCell ⟨g, j * 2, none⟩ (.int .i64 p.1)).setCell ⟨g, j * 2 + 1, none⟩ (.string p.2)) B g n cap (flatT (ps.set j p)) ∧
    (∃ u, w.cell? ⟨g, j * 2, none⟩ = some u) ∧ (∃ u, (w.setCell ⟨g, j * 2, none⟩ (.int .i64 p.1)).cell? ⟨g, j * 2 + 1, none⟩ = some u) ∧
    w.frozen? ⟨g, j * 2, none⟩ = false ∧ (w.setCell ⟨g, j * 2, none⟩ (.int .i64 p.1)).frozen? ⟨g, j * 2 + 1, none⟩ = false := by
  have hl := flatT_length ps
  have h1 := h.set (j * 2) (.int .i64 p.1)
  have h2 := h1.set (j * 2 + 1) (.string p.2)
  refine ⟨?_, ⟨_, h.cell (List.getElem?_eq_getElem (i := j * 2) (by omega))⟩, ⟨_, h1.cell (List.getElem?_eq_getElem (i := j * 2 + 1) (by rw [List.length_set]; omega))⟩, h.frozenAt _, h1.frozenAt _⟩
  rw [flatT_set]
  exact h2
theorem TR.own {w : World} {B g n cap : Nat} {ps : List Item} (h : TR w B g n cap (flatT ps)) (hn : ps.length = n) : OwnT w B (.slice (some ⟨g, 0, none⟩) n cap) ps := by
  subst hn
  exact h

theorem ba_self (d : ByteArray) : (d == d) = true := by
  cases d
  simp [BEq.beq]
  unfold ByteArray.beq
  simp

/-- An item is itself. -/
theorem eqItem (a : Int) (b : ByteArray) (w : World) : (Op.equalIn 10000 27 (.agg #[.int .i64 a, .string b]) (.agg #[.int .i64 a, .string b])).run Tryd.prog w = .ok true w := by
  have u3 := Tryd.underlying3
  have a3 := Tryd.isAgg3
  have z3 := Tryd.sizeOf3
  have u9 := Tryd.underlying9
  have a9 := Tryd.isAgg9
  have z9 := Tryd.sizeOf9
  have hb := ba_self b
  have hS : Tryd.prog.underlying 27 = some (.struct (Tryd.prog.fieldsOf 27)) := by kernel_rfl
  rw [show (10000 : Nat) = 9999 + 1 from rfl, run_equalIn_agg w 9999 27 _ _ hS (by kernel_rfl)]
  simp only [Program.fieldsOf, Tryd.underlying27]
  go_simp

end Go.Proofs.YtofphdmebjcofaaDoor
