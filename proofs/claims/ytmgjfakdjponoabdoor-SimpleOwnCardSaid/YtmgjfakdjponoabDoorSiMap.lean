/-
  Edges as keys of a map: what a set of edges says.
-/
import Derived.Test.YtmgjfakdjponoabDoorSiValid
import Derived.Maps.OwnSet
import Derived.DeepKeys4
namespace Go.Proofs.YtmgjfakdjponoabDoor
open Go.RowKit Go.Sort Go.Maps

theorem laidOutK : laidOutB Tryd.prog = true := by kernel_rfl
theorem rowEdge : (52 : TypeId) < Tryd.prog.types.size := of_decide_eq_true (by kernel_rfl)
theorem wideEdge : (match Tryd.prog.underlying 52 with | some (.array _ _) | some (.struct _) => true | _ => false) = true := by kernel_rfl
theorem keyAtEdge : Tryd.prog.keyTypeAt 2 52 = true := by kernel_rfl
set_option maxRecDepth 100000 in
theorem lawEdge : Keyed Tryd.prog 52 := Keyed.of_law (deep_law_laid laidOutK (m := 2) (by omega) rowEdge keyAtEdge wideEdge)
theorem keyTypeEdge : Tryd.prog.keyType 52 = true := by kernel_rfl
theorem cellsEdge : Tryd.prog.cellsOf 52 = 2 := by kernel_rfl
theorem cellsIntK : Tryd.prog.cellsOf 3 = 1 := by kernel_rfl
theorem pos_succ {a b : Nat} (h : a < b) : ∃ m, b = m + 1 := ⟨b - 1, by omega⟩
set_option maxRecDepth 100000 in
theorem typesPos : ∃ m, Tryd.prog.types.size = m + 1 := pos_succ rowEdge
theorem zeroUnit (w : World) : (zeroValue 81).run Tryd.prog w = .ok (.agg #[]) w := by kernel_rfl

def keyE (e : Int × Int) : Lit := .string (keyBytes [.int .i64 e.1, .int .i64 e.2])

/-- Both numbers are of 64 bits. -/
def In64 (e : Int × Int) : Prop := (-9223372036854775808 ≤ e.1 ∧ e.1 ≤ 9223372036854775807) ∧ -9223372036854775808 ≤ e.2 ∧ e.2 ≤ 9223372036854775807

theorem wf64 {x : Int} (h : -9223372036854775808 ≤ x ∧ x ≤ 9223372036854775807) : (Lit.int .i64 x).wf = true := WalkArith.wf_i64 (by omega)

theorem keyOf_edge {e : Int × Int} (h : In64 e) : keyOf Tryd.prog 52 (edgeVal e) = some (keyE e) := by
  obtain ⟨m, hm⟩ := typesPos
  have w1 := wf64 h.1
  have w2 := wf64 h.2
  unfold keyOf edgeVal keyE
  simp only [Tryd.underlying52]
  rw [if_pos (by simp [keyTypeEdge, Value.formed, Tryd.underlying52, cellsEdge]), hm]
  unfold Program.keyLits
  simp only [Tryd.underlying52, Value.cells]
  rw [if_pos (by rw [cellsEdge]; exact ⟨rfl, by simp⟩)]
  simp [cellsIntK, Program.keyLits, Tryd.underlying3, w1, w2]

theorem keyE_isKey (e : Int × Int) : WideAt.IsKeyLit (keyE e) := by unfold keyE; trivial

theorem keyE_inj {a b : Int × Int} (ha : In64 a) (hb : In64 b) (h : keyE a = keyE b) : a = b := by
  have h1 := keyOf_edge ha
  have h2 := keyOf_edge hb
  rw [← h] at h2
  have := lawEdge.inj h1 h2
  unfold edgeVal at this
  simp at this
  exact Prod.ext this.1 this.2

/-- The set D has just the edges for which p holds, and there are n of them. -/
structure SetIs (D : DataW Unit) (p : Int × Int → Prop) (n : Nat) : Prop where
  tidy : Tidy D
  has : ∀ e, In64 e → (Maps.has D (keyE e) = true ↔ p e)
  size : Maps.size D = n

theorem SetIs.start : SetIs (.map []) (fun _ => False) 0 := ⟨tidy_empty, fun e _ => by simp [Maps.has], rfl⟩

theorem SetIs.put {D : DataW Unit} {p : Int × Int → Prop} {n : Nat} (h : SetIs D p n) {e : Int × Int} (he : In64 e) (u : DataW Unit) :
    SetIs (D.put (keyE e) u) (fun x => p x ∨ x = e) (if Maps.has D (keyE e) then n else n + 1) := by
  refine ⟨h.tidy.put (keyE_isKey e) u, fun x hx => ?_, ?_⟩
  · by_cases hxe : x = e
    · subst hxe
      rw [has_put_same h.tidy.isMap (keyE_isKey x)]
      simp
    · rw [has_put_other (fun k => hxe (keyE_inj hx he k))]
      rw [h.has x hx]
      simp [hxe]
  · rw [size_put h.tidy, h.size]

theorem SetIs.del {D : DataW Unit} {p : Int × Int → Prop} {n : Nat} (h : SetIs D p n) {e : Int × Int} (he : In64 e) (hp : p e) :
    ∃ m, n = m + 1 ∧ SetIs (D.del (keyE e)) (fun x => p x ∧ x ≠ e) m := by
  have hsd := size_del (k := keyE e) h.tidy
  rw [if_pos ((h.has e he).2 hp), h.size] at hsd
  refine ⟨Maps.size (D.del (keyE e)), hsd.symm, h.tidy.del _, fun x hx => ?_, rfl⟩
  by_cases hxe : x = e
  · subst hxe
    rw [has_del_same]
    simp
  · rw [has_del_other (fun k => hxe (keyE_inj hx he k)), h.has x hx]
    simp [hxe]

theorem SetIs.congr {D : DataW Unit} {p q : Int × Int → Prop} {n : Nat} (h : SetIs D p n) (hpq : ∀ e, In64 e → (p e ↔ q e)) : SetIs D q n :=
  ⟨h.tidy, fun e he => (h.has e he).trans (hpq e he), h.size⟩

end Go.Proofs.YtmgjfakdjponoabDoor
