/-
  Lists of pairs in memory that a call makes itself; copies of lists of pairs that came in.
-/
import Derived.Test.YtmgjfakdjponoabDoorSiOwn
namespace Go.Proofs.YtmgjfakdjponoabDoor
open Go.RowKit

theorem Tryd.infoTwo : (Tryd.prog.info? 34).map (fun i => (i.zero, i.size, i.bytes)) = some (some (.agg #[.int .i64 0, .int .i64 0]), 2, 16) := by kernel_rfl

/-- v is a slice of the pairs es, laid since block B. -/
def OwnP (w : World) (B : Nat) (v : Value) (es : List (Int × Int)) : Prop := w.ownsRow B 34 2 v es.length (flatE es)

theorem OwnP.form {w : World} {B : Nat} {v : Value} {es : List (Int × Int)} (h : OwnP w B v es) : ∃ ao cap, v = .slice ao es.length cap ∧ es.length ≤ cap ∧ cap ≤ maxLen ∧ EdgesAt w ao es ∧ (∀ x, ao = some x → B ≤ x.block ∧ x.block < w.heap.size) := by
  have h' := h
  unfold OwnP at h'
  rcases h.2 with ⟨rfl, h0⟩ | ⟨g, cap, cur, rfl, hg, hh, hc, hm, _⟩
  · refine ⟨none, 0, by rw [h0], by omega, Nat.zero_le _, fun j p hj => ?_, fun x h => by cases h⟩
    rw [List.length_eq_zero_iff.1 h0] at hj
    simp at hj
  · refine ⟨_, cap, rfl, hc, hm, fun j p hj => ⟨g, 0, rfl, ?_⟩, fun x h => by cases h; exact ⟨hg, lt_of_block hh⟩⟩
    have hcl := World.ownsRow.cells h' (g := g) rfl
    simp only [addrE] at hcl
    obtain ⟨h0, h1⟩ := flatE_at es j p hj
    rw [Nat.zero_add]
    exact ⟨hcl _ _ h0, hcl _ _ h1⟩

theorem OwnP.below {w w' : World} {B A : Nat} {v : Value} {ps : List (Int × Int)} (h : OwnP w B v ps) (hb : Below A w w') (hA : w.heap.size ≤ A) : OwnP w' B v ps := by
  refine ⟨h.1, ?_⟩
  rcases h.2 with h | ⟨g, cap, cur, e, hgB, hh, hr⟩
  · exact .inl h
  · exact .inr ⟨g, cap, cur, e, hgB, (hb.block g (by have := lt_of_block hh; omega)).trans hh, hr⟩

theorem OwnP.alloc {w : World} {B : Nat} {v : Value} {ps : List (Int × Int)} (h : OwnP w B v ps) (o : Obj) : OwnP (w.alloc o) B v ps := World.ownsRow.alloc h o

theorem OwnP.some {w : World} {B : Nat} {v : Value} {es : List (Int × Int)} (h : OwnP w B v es) (hn : v ≠ .slice none 0 0) : ∃ g cap, v = .slice (some ⟨g, 0, none⟩) es.length cap := by
  rcases h.2 with ⟨rfl, _⟩ | ⟨g, cap, cur, rfl, _⟩
  · exact absurd rfl hn
  · exact ⟨g, cap, rfl⟩

theorem OwnP.far {w : World} {B b : Nat} {v : Value} {ps : List (Int × Int)} (h : OwnP w B v ps) (hb : b < B) : v.ownBlock ≠ Option.some b := by
  obtain ⟨ao, cap, rfl, _, _, _, hx⟩ := h.form
  cases ao with
  | none => simp [Value.ownBlock]
  | some x => have := hx x rfl; simp [Value.ownBlock]; omega

/-- Stores into another block leave it; it may be said of an earlier block. -/
theorem OwnP.set2 {w : World} {B A b : Nat} {v : Value} {ps : List (Int × Int)} (h : OwnP w B v ps) (hA : A ≤ b ∧ b < B) (x y : Value) : OwnP ((w.setCell ⟨b, 0, none⟩ x).setCell ⟨b, 1, none⟩ y) A v ps := by
  refine ⟨h.1, ?_⟩
  rcases h.2 with h | ⟨g, cap, cur, e, hgB, hh, hr⟩
  · exact .inl h
  · refine .inr ⟨g, cap, cur, e, by omega, ?_, hr⟩
    rw [heap_setCell_other _ ⟨b, 1, none⟩ g y (by simp; omega), heap_setCell_other _ ⟨b, 0, none⟩ g x (by simp; omega)]
    exact hh

theorem OwnP.lower {w : World} {B A : Nat} {v : Value} {ps : List (Int × Int)} (h : OwnP w B v ps) (hA : A ≤ B) : OwnP w A v ps := by
  refine ⟨h.1, ?_⟩
  rcases h.2 with h | ⟨g, cap, cur, e, hgB, hh, hr⟩
  · exact .inl h
  · exact .inr ⟨g, cap, cur, e, by omega, hh, hr⟩

theorem OwnP.nil (w : World) (B : Nat) : OwnP w B (.slice none 0 0) [] := World.ownsRow_nil _ _ _ _

/-- The cells of edges, one by one. -/
theorem EdgesAt.cells {w : World} {x : Addr} {es : List (Int × Int)} (h : EdgesAt w (some x) es) : ∀ j u, (flatE es)[j]? = some u → w.cell? (x.add j) = some u := by
  intro j u hj
  have hl : j < es.length * 2 := by
    have := (List.getElem?_eq_some_iff.1 hj).1
    rw [flatE_length] at this
    exact this
  have hp : es[j / 2]? = some es[j / 2] := List.getElem?_eq_getElem (by omega)
  obtain ⟨b, o, e, h0, h1⟩ := h (j / 2) _ hp
  cases e
  obtain ⟨f0, f1⟩ := flatE_at es (j / 2) _ hp
  have ea : ((⟨b, o, none⟩ : Addr).add j) = ⟨b, o + j, none⟩ := by
    by_cases h0 : j = 0 <;> simp [Addr.add, h0]
  rw [ea]
  rcases (show j = j / 2 * 2 ∨ j = j / 2 * 2 + 1 by omega) with h | h
  · rw [← h] at f0 h0
    rw [f0] at hj
    cases hj
    exact h0
  · rw [← h] at f1
    rw [Nat.add_assoc, ← h] at h1
    rw [f1] at hj
    cases hj
    exact h1

theorem flatE_one (es : List (Int × Int)) : ∀ u ∈ flatE es, u.oneCell' = true := by
  intro u hu
  unfold flatE at hu
  rw [List.mem_flatMap] at hu
  obtain ⟨p, _, hu⟩ := hu
  simp at hu
  rcases hu with rfl | rfl <;> rfl

def CopiedPost (ps : List (Int × Int)) (w : World) (e : Ending) (w' : World) : Prop :=
  ∃ g cap, e = .returned (.slice (some ⟨g, 0, none⟩) ps.length cap) ∧ OwnP w' w.heap.size (.slice (some ⟨g, 0, none⟩) ps.length cap) ps ∧ Below w.heap.size w w'

set_option maxRecDepth 100000 in
set_option maxHeartbeats 4000000 in
theorem copied_any (ao : Option Addr) (cap : Nat) (ps : List (Int × Int)) (w : World) (he : EdgesAt w ao ps) (hn : ao = none → ps = [] ∧ cap = 0) (hl : ps.length * 16 ≤ 140737488355328) :
    Calls Tryd.prog 15 #[.slice ao ps.length cap] w (CopiedPost ps w) := by
  obtain ⟨i0, hi, hz0, hz1, hz2⟩ := info_parts Tryd.infoTwo
  have hown0 : (w.alloc (.cells #[] 34)).ownsRow w.heap.size 34 2 (.slice (some ⟨w.heap.size, 0, none⟩) 0 0) 0 [] := World.ownsRow_made w #[] 0 (Nat.le_refl _) (Nat.zero_le _) rfl
  have hb0 : Below w.heap.size w (w.alloc (.cells #[] 34)) := (Below.refl _ _).alloc (Nat.le_refl _) _
  have HOWN0 := Nu.hid hown0
  have HB0 := Nu.hid hb0
  have HE := Nu.hid he
  clear hown0 hb0 he
  cases ao with
  | none =>
    obtain ⟨rfl, rfl⟩ := hn rfl
    go_enter Tryd.func15, Tryd.ntmps15
    go_wp2_with (at_builtin; refine wpList_append_own_none rfl _ _ 32 rfl w.heap.size 34 i0 2 Tryd.underlying32 hi _ 0 [] rfl HOWN0.out rfl ?_)
    go_ret
    exact ⟨_, _, rfl, HOWN0.out, HB0.out⟩
  | some x =>
    have hc : ∀ j u, (flatE ps)[j]? = some u → (w.alloc (.cells #[] 34)).cell? (x.add j) = some u := fun j u hj => (World.grownBy_alloc w _ none).cell (HE.out.cells j u hj) (by simp)
    have HC := Nu.hid hc
    clear hc
    go_enter Tryd.func15, Tryd.ntmps15
    go_wp2_with (at_builtin; refine wpList_append_own _ rfl _ _ 32 rfl w.heap.size 34 i0 (.agg #[.int .i64 0, .int .i64 0]) 2 16 Tryd.underlying32 hi hz0 hz1 hz2 rfl (by decide) _ 0 [] rfl HOWN0.out x ps.length cap (flatE ps) rfl (flatE_length ps) HC.out (flatE_one ps) (by unfold maxLen; omega) (by omega) (by simp) ?_; refine Hid.out ?_)
    refine Nu.hid ?_
    intro v' w3 hrow3 hg3 hnil
    have HB3 := Nu.hid (HB0.out.grown hg3 (by simp) (fun j hj => by cases hj; exact Nat.le_refl _))
    have HROW3 : Hid (OwnP w3 w.heap.size v' ps) := hrow3
    have hnn : v' ≠ .slice none 0 0 := hnil
    obtain ⟨g, c, rfl⟩ := HROW3.out.some hnn
    clear hrow3 hg3 hnil hnn
    go_wp2
    go_ret
    exact ⟨_, _, rfl, HROW3.out, HB3.out⟩

end Go.Proofs.YtmgjfakdjponoabDoor
