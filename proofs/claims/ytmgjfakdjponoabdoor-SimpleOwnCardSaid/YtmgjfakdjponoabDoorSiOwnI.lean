/-
  Lists of ints of one's own: what Degrees answers, written over and grown.
-/
import Derived.Test.YtmgjfakdjponoabDoorSiDeg
import Derived.Test.YtmgjfakdjponoabDoorSiSameI
import Derived.Test.YtmgjfakdjponoabDoorSiOwn
import Derived.Maps.AppendAt
import Derived.Maps.Range
namespace Go.Proofs.YtmgjfakdjponoabDoor
open Go.RowKit

/-- v is a slice of the ints l, laid since block B. -/
def OwnI (w : World) (B : Nat) (v : Value) (l : List Int) : Prop := w.ownsRow B 3 1 v l.length (l.map (Value.int .i64))

theorem OwnI.nil (w : World) (B : Nat) : OwnI w B (.slice none 0 0) [] := World.ownsRow_nil _ _ _ _

theorem OwnI.form {w : World} {B : Nat} {v : Value} {l : List Int} (h : OwnI w B v l) : ∃ ao cap, v = .slice ao l.length cap ∧ IntsAt w ao l ∧ ∀ x, v.ownBlock = some x → B ≤ x ∧ x < w.heap.size := by
  have h' := h
  unfold OwnI at h'
  have hlt := fun x hx => World.ownsRow.lt h' x hx
  rcases h.2 with ⟨rfl, h0⟩ | ⟨g, cap, cur, rfl, hg, hh, hc, hm, _⟩
  · refine ⟨none, 0, by rw [h0], fun j x hj => ?_, hlt⟩
    rw [List.length_eq_zero_iff.1 h0] at hj
    simp at hj
  · refine ⟨_, cap, rfl, fun j x hj => ⟨g, 0, rfl, ?_⟩, hlt⟩
    have := World.ownsRow.cells h' (g := g) rfl j (.int .i64 x) (by rw [List.getElem?_map, hj]; rfl)
    rw [addrE] at this
    rw [Nat.zero_add]
    exact this

theorem OwnI.kept {w w' : World} {B : Nat} {v : Value} {l : List Int} {row : Option Nat} (h : OwnI w B v l) (hg : w.grownBy w' row) (hne : v.ownBlock = none ∨ v.ownBlock ≠ row) : OwnI w' B v l := World.ownsRow.kept h hg hne

theorem OwnI.below {w w' : World} {B : Nat} {v : Value} {l : List Int} (h : OwnI w B v l) (hb : Below w.heap.size w w') : OwnI w' B v l := by
  refine ⟨h.1, ?_⟩
  rcases h.2 with h | ⟨g, cap, cur, e, hgB, hh, hr⟩
  · exact .inl h
  · exact .inr ⟨g, cap, cur, e, hgB, (hb.block g (lt_of_block hh)).trans hh, hr⟩

theorem OwnI.lower {w : World} {B A : Nat} {v : Value} {l : List Int} (h : OwnI w B v l) (hA : A ≤ B) : OwnI w A v l := by
  refine ⟨h.1, ?_⟩
  rcases h.2 with h | ⟨g, cap, cur, e, hgB, hh, hr⟩
  · exact .inl h
  · exact .inr ⟨g, cap, cur, e, by omega, hh, hr⟩

theorem IntsBlk.own {w : World} {B g : Nat} {l : List Int} (h : IntsBlk w g l) (hB : B ≤ g) (hl : l.length ≤ maxLen) : OwnI w B (.slice (some ⟨g, 0, none⟩) l.length l.length) l := by
  refine ⟨by simp, .inr ⟨g, l.length, (l.map (Value.int .i64)).toArray, rfl, hB, h, Nat.le_refl _, hl, by simp, ?_⟩⟩
  simp only [Nat.mul_one]
  exact List.take_of_length_le (by simp)

open Classical in
/-- The degrees, and the error's number. -/
noncomputable def Si.degr (n : Int) (es : List (Int × Int)) : List Int × Int := if Si.valid n es = true then (Si.degs n es, 0) else ([], 1)

def DegO (r : List Int × Int) (w : World) (e : Ending) (w' : World) : Prop :=
  ∃ v, e = .returned (.tuple #[v, .int .i64 r.2]) ∧ OwnI w' w.heap.size v r.1 ∧ r.1.length ≤ 1048576 ∧ Below w.heap.size w w'

theorem degO_of {n : Int} {es : List (Int × Int)} {w w' : World} {e : Ending} (h : DegPost n es w e w') : DegO (Si.degr n es) w e w' := by
  obtain ⟨h | h, hb⟩ := h
  · obtain ⟨hv, g, m, hm, rfl, hg, hik⟩ := h
    have hhi := (Si.valid_iff.1 hv).hi
    have e : Si.degr n es = (Si.degs n es, 0) := by unfold Si.degr; rw [if_pos hv]
    have el : (Si.degs n es).length = m := by rw [Si.degs_length, hm]; simp
    rw [e]
    have ho := hik.own hg (by rw [el]; unfold maxLen; omega)
    rw [el] at ho
    exact ⟨_, rfl, ho, by rw [el]; omega, hb⟩
  · obtain ⟨hv, rfl⟩ := h
    have e : Si.degr n es = ([], 1) := by unfold Si.degr; rw [if_neg (by rw [hv]; simp)]
    rw [e]
    exact ⟨_, rfl, OwnI.nil _ _, Nat.zero_le _, hb⟩

/-- A row of n ints at ⟨g, o⟩. -/
def IR (w : World) (B g o n cap : Nat) (l : List Int) : Prop := o = 0 ∧ w.ownsRow B 3 1 (.slice (some ⟨g, o, none⟩) n cap) n (l.map (Value.int .i64))

theorem OwnI.row {w : World} {B : Nat} {v : Value} {l : List Int} (h : OwnI w B v l) (hn : 0 < l.length) : ∃ g o cap, v = .slice (Option.some ⟨g, o, none⟩) l.length cap ∧ IR w B g o l.length cap l := by
  rcases h.2 with ⟨rfl, h0⟩ | ⟨g, cap, cur, rfl, _⟩
  · omega
  · exact ⟨g, 0, cap, rfl, rfl, h⟩

theorem IR.own {w : World} {B g o n cap : Nat} {l : List Int} (h : IR w B g o n cap l) (hn : l.length = n) : OwnI w B (.slice (some ⟨g, o, none⟩) n cap) l := by
  subst hn
  exact h.2

/-- A number stored at j. -/
theorem IR.put {w : World} {B g o n cap : Nat} {l : List Int} (h : IR w B g o n cap l) {j : Nat} (hj : j < l.length) (x : Int) :
    IR (w.setCell ⟨g, o + j, none⟩ (.int .i64 x)) B g o n cap (l.set j x) ∧ w.grownBy (w.setCell ⟨g, o + j, none⟩ (.int .i64 x)) (some g) ∧ (∃ u, w.cell? ⟨g, o + j, none⟩ = some u) ∧ w.frozen? ⟨g, o + j, none⟩ = false := by
  obtain ⟨rfl, h⟩ := h
  have hs := h.stored j (.int .i64 x)
  rw [Nat.zero_add]
  refine ⟨⟨rfl, ?_⟩, hs.2, ⟨.int .i64 l[j], ?_⟩, h.frozenAt j⟩
  · rw [List.map_set]
    exact hs.1
  · have := World.ownsRow.cells h (g := g) rfl j (.int .i64 l[j]) (by rw [List.getElem?_map, List.getElem?_eq_getElem hj]; rfl)
    rw [addrE] at this
    exact this

theorem owni_snoc {w : World} {B m : Nat} {v : Value} {l : List Int} {x : Int} (hm : l.length = m) (h : w.ownsRow B 3 1 v (m + 1) (l.map (Value.int .i64) ++ [.int .i64 x])) : OwnI w B v (l ++ [x]) := by
  subst hm
  unfold OwnI
  rw [List.map_append, List.length_append]
  exact h

end Go.Proofs.YtmgjfakdjponoabDoor
