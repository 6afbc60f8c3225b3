/-
  A region that draws its order: a copy of a list is handed to a call whose graph is put into a box: what is so when some of its operations have come up.
-/
import Derived.Test.YtdkckdbpbdhoaaaAnyV
import Derived.Test.YtdkckdbpbdhoaaaRunCp
import Derived.Test.YtdkckdbpbdhoaaaEdLw
namespace Go.Proofs.Ytdkckdbpbdhoaaa
open Go.RowKit

theorem gives_enter {P : Program} {o : Oper} {ev : Operand → Value} {R : Value → World → Prop} {f : FuncId} {args : Array Value} {V : World} (h : (execOp ev o).run P V = .ok (.enter f args) V) (hc : Calls P f args V fun e w' => ∃ v, e = .returned v ∧ R v w') : AnyOrd.Gives P o ev V R := by
  unfold AnyOrd.Gives
  rw [h]
  exact hc

/-- Operations: 0 the graph; 1 an empty list; 2 the list; 3 its copy; 4 the call; 5 its answer; 6 the graph answered; 7 the error; 8 the box; 9 it is stored; 10 the error's place. -/
structure CpS (w : World) (gv lv : Value) (q : Nat) (l : List Int) (N : Int) (E : List (Int × Int)) (k : Int) (L : Nat → Bool) (ρ : Nat → Value) (W : World) (b g gc : Nat) (a : Option Addr) (c H : Nat) (x y : Value) : Prop where
  low : Below w.heap.size w W
  v0 : L 0 = true → ρ 0 = gv
  v1 : L 1 = true → ρ 1 = .slice (some ⟨b, 0, none⟩) 0 0
  e1 : L 1 = true → L 3 = false → w.heap.size ≤ b ∧ W.heap[b]? = some (.cells #[] 3 (0, 0))
  v2 : L 2 = true → ρ 2 = lv
  v3 : L 3 = true → ρ 3 = .slice (some ⟨g, 0, none⟩) q gc
  e3 : L 3 = true → L 4 = false → IntsAt W (some ⟨g, 0, none⟩) l
  v4 : L 4 = true → ρ 4 = .tuple #[.agg #[.int .i64 N, .slice a E.length c], .int .i64 k]
  e4 : L 4 = true → OwnE W w.heap.size (.slice a E.length c) E
  v5 : L 5 = true → ρ 5 = .tuple #[.agg #[.int .i64 N, .slice a E.length c], .int .i64 k]
  v6 : L 6 = true → ρ 6 = .agg #[.int .i64 N, .slice a E.length c]
  v7 : L 7 = true → ρ 7 = .int .i64 k
  v8 : L 8 = true → ρ 8 = .pointer (some ⟨H, 0, none⟩)
  e8 : L 8 = true → w.heap.size ≤ H ∧ W.heap[H]? = some (.cells #[x, y] 24 (0, 0))
  f8 : L 4 = true → L 8 = true → (Value.slice a E.length c).ownBlock ≠ some H
  e9 : L 9 = true → x = .int .i64 N ∧ y = .slice a E.length c
  v10 : L 10 = true → ρ 10 = .int .i64 k

def CpC (w : World) (gv lv : Value) (q : Nat) (l : List Int) (N : Int) (E : List (Int × Int)) (k : Int) (L : Nat → Bool) (ρ : Nat → Value) (W : World) : Prop := ∃ b g gc a c H x y, CpS w gv lv q l N E k L ρ W b g gc a c H x y

section
variable {w : World} {gv lv : Value} {q : Nat} {l : List Int} {N : Int} {E : List (Int × Int)} {k : Int} {L : Nat → Bool} {ρ : Nat → Value} {W W' : World}
open AnyOrd

theorem CpC.start (hb : Below w.heap.size w W) : CpC w gv lv q l N E k (fun _ => false) ρ W :=
  ⟨0, 0, 0, none, 0, 0, undef, undef, hb, nofun, nofun, nofun, nofun, nofun, nofun, nofun, nofun, nofun, nofun, nofun, nofun, nofun, nofun, nofun, nofun⟩

theorem CpC.load (h : CpC w gv lv q l N E k L ρ W) : CpC w gv lv q l N E k (updB L 0) (upd ρ 0 gv) W := by
  obtain ⟨b, g, gc, a, c, H, x, y, S⟩ := h
  exact ⟨b, g, gc, a, c, H, x, y, S.low, fun _ => rfl, S.v1, S.e1, S.v2, S.v3, S.e3, S.v4, S.e4, S.v5, S.v6, S.v7, S.v8, S.e8, S.f8, S.e9, S.v10⟩

theorem CpC.new (h : CpC w gv lv q l N E k L ρ W) : CpC w gv lv q l N E k (updB L 1) (upd ρ 1 (.slice (some ⟨W.heap.size, 0, none⟩) 0 0)) (W.alloc (.cells #[] 3)) := by
  obtain ⟨b, g, gc, a, c, H, x, y, S⟩ := h
  have hb : Below W.heap.size W (W.alloc (.cells #[] 3)) := (Below.refl _ _).alloc (Nat.le_refl _) _
  exact ⟨W.heap.size, g, gc, a, c, H, x, y, S.low.trans (hb.mono S.low.size), S.v0, fun _ => rfl, fun _ _ => ⟨S.low.size, heap_alloc_new _ _⟩, S.v2, S.v3, fun h h' => (S.e3 h h').later hb, S.v4, fun h => (S.e4 h).below hb (Nat.le_refl _), S.v5, S.v6, S.v7, S.v8, fun h => ⟨(S.e8 h).1, blk_later (S.e8 h).2 hb⟩, S.f8, S.e9, S.v10⟩

theorem CpC.move (h : CpC w gv lv q l N E k L ρ W) : CpC w gv lv q l N E k (updB L 2) (upd ρ 2 lv) W := by
  obtain ⟨b, g, gc, a, c, H, x, y, S⟩ := h
  exact ⟨b, g, gc, a, c, H, x, y, S.low, S.v0, S.v1, S.e1, fun _ => rfl, S.v3, S.e3, S.v4, S.e4, S.v5, S.v6, S.v7, S.v8, S.e8, S.f8, S.e9, S.v10⟩

theorem CpC.copy (h : CpC w gv lv q l N E k L ρ W) {g' c' : Nat} (hb : Below W.heap.size W W') (hi : IntsAt W' (some ⟨g', 0, none⟩) l) : CpC w gv lv q l N E k (updB L 3) (upd ρ 3 (.slice (some ⟨g', 0, none⟩) q c')) W' := by
  obtain ⟨b, g, gc, a, c, H, x, y, S⟩ := h
  exact ⟨b, g', c', a, c, H, x, y, S.low.trans (hb.mono S.low.size), S.v0, S.v1, fun _ h => (by cases h), S.v2, fun _ => rfl, fun _ _ => hi, S.v4, fun h => (S.e4 h).below hb (Nat.le_refl _), S.v5, S.v6, S.v7, S.v8, fun h => ⟨(S.e8 h).1, blk_later (S.e8 h).2 hb⟩, S.f8, S.e9, S.v10⟩

theorem CpC.call (h : CpC w gv lv q l N E k L ρ W) {a' : Option Addr} {c' : Nat} (hb : Below W.heap.size W W') (ho : OwnE W' W.heap.size (.slice a' E.length c') E) (h5 : L 5 = false) (h6 : L 6 = false) (h9 : L 9 = false) : CpC w gv lv q l N E k (updB L 4) (upd ρ 4 (.tuple #[.agg #[.int .i64 N, .slice a' E.length c'], .int .i64 k])) W' := by
  obtain ⟨b, g, gc, a, c, H, x, y, S⟩ := h
  refine ⟨b, g, gc, a', c', H, x, y, S.low.trans (hb.mono S.low.size), S.v0, S.v1, fun h h' => ⟨(S.e1 h h').1, blk_later (S.e1 h h').2 hb⟩, S.v2, S.v3, fun _ h => (by cases h), fun _ => rfl, fun _ => ho.lower S.low.size, fun h => ?_, fun h => ?_, S.v7, S.v8, fun h => ⟨(S.e8 h).1, blk_later (S.e8 h).2 hb⟩, fun _ h => ho.far (lt_of_block (S.e8 h).2), fun h => ?_, S.v10⟩
  · rw [show L 5 = true from h] at h5; cases h5
  · rw [show L 6 = true from h] at h6; cases h6
  · rw [show L 9 = true from h] at h9; cases h9

/-- What the call answered is read off. -/
theorem CpC.five (h : CpC w gv lv q l N E k L ρ W) (h4 : L 4 = true) : CpC w gv lv q l N E k (updB L 5) (upd ρ 5 (ρ 4)) W := by
  obtain ⟨b, g, gc, a, c, H, x, y, S⟩ := h
  exact ⟨b, g, gc, a, c, H, x, y, S.low, S.v0, S.v1, S.e1, S.v2, S.v3, S.e3, S.v4, S.e4, fun _ => S.v4 h4, S.v6, S.v7, S.v8, S.e8, S.f8, S.e9, S.v10⟩
theorem CpC.six (h : CpC w gv lv q l N E k L ρ W) (h5 : L 5 = true) : ∃ a c, ρ 5 = .tuple #[.agg #[.int .i64 N, .slice a E.length c], .int .i64 k] ∧ CpC w gv lv q l N E k (updB L 6) (upd ρ 6 (.agg #[.int .i64 N, .slice a E.length c])) W := by
  obtain ⟨b, g, gc, a, c, H, x, y, S⟩ := h
  exact ⟨a, c, S.v5 h5, b, g, gc, a, c, H, x, y, S.low, S.v0, S.v1, S.e1, S.v2, S.v3, S.e3, S.v4, S.e4, S.v5, fun _ => rfl, S.v7, S.v8, S.e8, S.f8, S.e9, S.v10⟩
theorem CpC.seven (h : CpC w gv lv q l N E k L ρ W) (h5 : L 5 = true) : ∃ a c, ρ 5 = .tuple #[.agg #[.int .i64 N, .slice a E.length c], .int .i64 k] ∧ CpC w gv lv q l N E k (updB L 7) (upd ρ 7 (.int .i64 k)) W := by
  obtain ⟨b, g, gc, a, c, H, x, y, S⟩ := h
  exact ⟨a, c, S.v5 h5, b, g, gc, a, c, H, x, y, S.low, S.v0, S.v1, S.e1, S.v2, S.v3, S.e3, S.v4, S.e4, S.v5, S.v6, fun _ => rfl, S.v8, S.e8, S.f8, S.e9, S.v10⟩
theorem CpC.box (h : CpC w gv lv q l N E k L ρ W) (h9 : L 9 = false) (x' y' : Value) : CpC w gv lv q l N E k (updB L 8) (upd ρ 8 (.pointer (some ⟨W.heap.size, 0, none⟩))) (W.alloc (.cells #[x', y'] 24)) := by
  obtain ⟨b, g, gc, a, c, H, x, y, S⟩ := h
  have hb : Below W.heap.size W (W.alloc (.cells #[x', y'] 24)) := (Below.refl _ _).alloc (Nat.le_refl _) _
  refine ⟨b, g, gc, a, c, W.heap.size, x', y', S.low.trans (hb.mono S.low.size), S.v0, S.v1, fun h h' => ⟨(S.e1 h h').1, blk_later (S.e1 h h').2 hb⟩, S.v2, S.v3, fun h h' => (S.e3 h h').later hb, S.v4, fun h => (S.e4 h).below hb (Nat.le_refl _), S.v5, S.v6, S.v7, fun _ => rfl, fun _ => ⟨S.low.size, heap_alloc_new _ _⟩, fun h _ e => ?_, fun h => ?_, S.v10⟩
  · have := (World.ownsRow.lt (S.e4 h) _ e).2
    omega
  · rw [show L 9 = true from h] at h9; cases h9
theorem CpC.store (h : CpC w gv lv q l N E k L ρ W) (h3 : L 3 = true) (h4 : L 4 = true) (h6 : L 6 = true) (h8 : L 8 = true) (u : Value) : ∃ H a c x y, ρ 8 = .pointer (some ⟨H, 0, none⟩) ∧ ρ 6 = .agg #[.int .i64 N, .slice a E.length c] ∧ W.heap[H]? = some (.cells #[x, y] 24 (0, 0)) ∧ CpC w gv lv q l N E k (updB L 9) (upd ρ 9 u) ((W.setCell ⟨H, 0, none⟩ (.int .i64 N)).setCell ⟨H, 1, none⟩ (.slice a E.length c)) := by
  obtain ⟨b, g, gc, a, c, H, x, y, S⟩ := h
  obtain ⟨hH, hbox⟩ := S.e8 h8
  refine ⟨H, a, c, x, y, S.v8 h8, S.v6 h6, hbox, b, g, gc, a, c, H, _, _, (S.low.setCell hH _).setCell hH _, S.v0, S.v1, fun _ h => ?_, S.v2, S.v3, fun _ h => ?_, S.v4, fun _ => own_put2 (S.e4 h4) (S.f8 h4 h8) _ _, S.v5, S.v6, S.v7, S.v8, fun _ => ⟨hH, pair_set hbox _ _⟩, S.f8, fun _ => ⟨rfl, rfl⟩, S.v10⟩
  · rw [show L 3 = false from h] at h3; cases h3
  · rw [show L 4 = false from h] at h4; cases h4
theorem CpC.ten (h : CpC w gv lv q l N E k L ρ W) (h7 : L 7 = true) : CpC w gv lv q l N E k (updB L 10) (upd ρ 10 (ρ 7)) W := by
  obtain ⟨b, g, gc, a, c, H, x, y, S⟩ := h
  exact ⟨b, g, gc, a, c, H, x, y, S.low, S.v0, S.v1, S.e1, S.v2, S.v3, S.e3, S.v4, S.e4, S.v5, S.v6, S.v7, S.v8, S.e8, S.f8, S.e9, fun _ => S.v7 h7⟩

/-- All have come up. -/
theorem CpC.done (h : CpC w gv lv q l N E k L ρ W) (hall : ∀ i, i < 11 → L i = true) : ∃ H a c, ρ 8 = .pointer (some ⟨H, 0, none⟩) ∧ ρ 10 = .int .i64 k ∧ Got W H N E a c ∧ Below w.heap.size w W := by
  obtain ⟨b, g, gc, a, c, H, x, y, S⟩ := h
  obtain ⟨rfl, rfl⟩ := S.e9 (hall 9 (by omega))
  obtain ⟨a', c', e, h1, h2, h3, _⟩ := (S.e4 (hall 4 (by omega))).form
  cases e
  exact ⟨H, a, c, S.v8 (hall 8 (by omega)), S.v10 (hall 10 (by omega)), ⟨(S.e8 (hall 8 (by omega))).2, h3, by unfold maxLen at h2; omega⟩, S.low⟩
end

end Go.Proofs.Ytdkckdbpbdhoaaa
