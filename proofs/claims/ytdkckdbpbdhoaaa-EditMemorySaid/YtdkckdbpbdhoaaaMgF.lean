import Derived.Test.YtdkckdbpbdhoaaaLst
import Derived.Test.YtdkckdbpbdhoaaaMgC
import Derived.ArgAppend
import Derived.Deep.DeepAppendRoom
import Derived.Test.YtdkckdbpbdhoaaaMgE
import Derived.Test.YtdkckdbpbdhoaaaEdLw
import Derived.Test.YtdkckdbpbdhoaaaEdSm
import Derived.Test.YtdkckdbpbdhoaaaMgA
/-
  A copy of a list of ints, run: the empty list lies in a block of any world.
-/
namespace Go.Proofs.Ytdkckdbpbdhoaaa
open Go.RowKit

/-- 'append([]int{}, xs...)', run: the empty list lies in block b. -/
theorem run_copyI (ty : TypeId) (W : World) (b : Nat) (ao : Option Addr) (n ca : Nat) (l : List Int) (hb : W.heap[b]? = some (.cells #[] 3 (0, 0))) (hr : Lst W ao n ca l) (hn : n ≤ 17592186043904) :
    ∃ g c w', (Builtin.append_ #[40, 40] ty #[.slice (some ⟨b, 0, none⟩) 0 0, .slice ao n ca]).run Try.prog W = .ok (.slice (some ⟨g, 0, none⟩) n c) w' ∧ (g = b ∨ W.heap.size ≤ g) ∧ (∀ B, B ≤ b → OwnZ w' B (.slice (some ⟨g, 0, none⟩) n c) l) ∧ g < w'.heap.size ∧ Below W.heap.size W w' := by
  obtain ⟨i0, hi, hz0, hz1, hz2⟩ := info_parts Try.infoNum
  have hlt := lt_of_block hb
  have hown0 : ∀ B, B ≤ b → W.ownsRow B 3 1 (.slice (some ⟨b, 0, none⟩) 0 0) 0 [] := fun B hB => ⟨rfl, .inr ⟨b, 0, #[], rfl, hB, hb, Nat.le_refl _, by unfold maxLen; omega, rfl, rfl⟩⟩
  by_cases h0 : n = 0
  · subst h0
    have hl : l = [] := List.length_eq_zero_iff.1 hr.len
    subst hl
    refine ⟨b, 0, W, ?_, .inl rfl, fun B hB => hown0 B hB, hlt, Below.refl _ _⟩
    cases ao with
    | none =>
      obtain ⟨_, rfl⟩ := hr.none rfl
      exact run_append_owned_none (P := Try.prog) (w := W) b 40 ty 3 i0 1 Try.underlying40 hi _ 0 [] (hown0 b (Nat.le_refl _))
    | some y =>
      have := run_append_room_cells (P := Try.prog) W 40 ty 3 i0 Try.underlying40 hi b 0 0 0 y 0 ca [] (by simp) (fun j u hj => by simp at hj) (fun u hu => by simp at hu) (Nat.le_refl _) (fun j hj => by simp at hj) (fun j hj => by simp at hj)
      rw [this]
      simp [World.setCells]
  · obtain ⟨y, hy⟩ : ∃ y, ao = some y := by
      cases ao with
      | none => exact absurd (hr.none rfl).1 h0
      | some y => exact ⟨y, rfl⟩
    subst hy
    obtain ⟨v', w', hrun, r1, r2⟩ := run_append_arg_grows (P := Try.prog) W 40 ty 3 i0 (.int .i64 0) 1 8 Try.underlying40 hi hz0 hz1 hz2 rfl (by decide) ⟨b, 0, none⟩ 0 0 [] rfl (fun j u hj => by simp at hj) y n ca (l.map (Value.int .i64)) (by rw [List.length_map, hr.len]; omega) (fun j u hj => by
      rw [List.getElem?_map] at hj
      cases hlj : l[j]? with
      | none => rw [hlj] at hj; cases hj
      | some z =>
        rw [hlj] at hj
        obtain rfl := Option.some.inj hj
        obtain ⟨b', o', e, hc⟩ := hr.ints j z hlj
        cases e
        have ea : ((⟨b', o', none⟩ : Addr).add j) = ⟨b', o' + j, none⟩ := by
          by_cases h0 : j = 0 <;> simp [Addr.add, h0]
        rw [ea]
        exact hc) (by omega) (by unfold maxLen; omega) (by omega)
    rw [Nat.zero_add, List.nil_append] at r1
    obtain ⟨k, hk⟩ : ∃ k, n = k + 1 := ⟨n - 1, by omega⟩
    rw [hk] at r1
    obtain ⟨g, c, rfl⟩ := own_succ r1
    rw [← hk] at r1 hrun
    have hg := World.ownsRow.lt r1 g rfl
    refine ⟨g, c, w', hrun, .inr hg.1, fun B hB => ?_, hg.2, ⟨r2.os, r2.tape, r2.output, r2.size, fun k hk => r2.block k hk (by simp)⟩⟩
    have : OwnZ w' W.heap.size (.slice (some ⟨g, 0, none⟩) n c) l := by
      unfold OwnZ
      rw [hr.len]
      exact r1
    exact this.lower (by omega)

end Go.Proofs.Ytdkckdbpbdhoaaa

/-
  A region that draws its order: a copy of a list is handed to a call whose graph is put into a box: what is so when some of its operations have come up.
-/
namespace Go.Proofs.Ytdkckdbpbdhoaaa
open Go.RowKit

theorem gives_enter {P : Program} {o : Oper} {ev : Operand → Value} {R : Value → World → Prop} {f : FuncId} {args : Array Value} {V : World} (h : (execOp ev o).run P V = .ok (.enter f args) V) (hc : Calls P f args V fun e w' => ∃ v, e = .returned v ∧ R v w') : AnyOrd.Gives P o ev V R := by
  unfold AnyOrd.Gives
  rw [h]
  exact hc

/-- Operations: 0 the graph; 1 an empty list; 2 the list; 3 its copy; 4 the call; 5 its answer; 6 the graph answered; 7 the error; 8 the box; 9 it is stored; 10 the error's place. -/
structure CpS (w : World) (gv lv : Value) (q : Nat) (l : List Int) (N : Int) (E : List (Int × Int)) (k : Int) (L : Nat → Bool) (ρ : Nat → Value) (W : World) (b g gc : Nat) (a : Option Addr) (c H : Nat) (x y : Value) : Prop where
  low : Below w.heap.size w W
  v0 : L 0 = true → ρ 0 = gv
  v1 : L 1 = true → ρ 1 = .slice (some ⟨b, 0, none⟩) 0 0
  e1 : L 1 = true → L 3 = false → w.heap.size ≤ b ∧ W.heap[b]? = some (.cells #[] 3 (0, 0))
  v2 : L 2 = true → ρ 2 = lv
  v3 : L 3 = true → ρ 3 = .slice (some ⟨g, 0, none⟩) q gc
  e3 : L 3 = true → L 4 = false → IntsAt W (some ⟨g, 0, none⟩) l
  v4 : L 4 = true → ρ 4 = .tuple #[.agg #[.int .i64 N, .slice a E.length c], .int .i64 k]
  e4 : L 4 = true → OwnE W w.heap.size (.slice a E.length c) E
  v5 : L 5 = true → ρ 5 = .tuple #[.agg #[.int .i64 N, .slice a E.length c], .int .i64 k]
  v6 : L 6 = true → ρ 6 = .agg #[.int .i64 N, .slice a E.length c]
  v7 : L 7 = true → ρ 7 = .int .i64 k
  v8 : L 8 = true → ρ 8 = .pointer (some ⟨H, 0, none⟩)
  e8 : L 8 = true → w.heap.size ≤ H ∧ W.heap[H]? = some (.cells #[x, y] 24 (0, 0))
  f8 : L 4 = true → L 8 = true → (Value.slice a E.length c).ownBlock ≠ some H
  e9 : L 9 = true → x = .int .i64 N ∧ y = .slice a E.length c
  v10 : L 10 = true → ρ 10 = .int .i64 k

def CpC (w : World) (gv lv : Value) (q : Nat) (l : List Int) (N : Int) (E : List (Int × Int)) (k : Int) (L : Nat → Bool) (ρ : Nat → Value) (W : World) : Prop := ∃ b g gc a c H x y, CpS w gv lv q l N E k L ρ W b g gc a c H x y

section
variable {w : World} {gv lv : Value} {q : Nat} {l : List Int} {N : Int} {E : List (Int × Int)} {k : Int} {L : Nat → Bool} {ρ : Nat → Value} {W W' : World}
open AnyOrd

theorem CpC.start (hb : Below w.heap.size w W) : CpC w gv lv q l N E k (fun _ => false) ρ W :=
  ⟨0, 0, 0, none, 0, 0, undef, undef, hb, nofun, nofun, nofun, nofun, nofun, nofun, nofun, nofun, nofun, nofun, nofun, nofun, nofun, nofun, nofun, nofun⟩

theorem CpC.load (h : CpC w gv lv q l N E k L ρ W) : CpC w gv lv q l N E k (updB L 0) (upd ρ 0 gv) W := by
  obtain ⟨b, g, gc, a, c, H, x, y, S⟩ := h
  exact ⟨b, g, gc, a, c, H, x, y, S.low, fun _ => rfl, S.v1, S.e1, S.v2, S.v3, S.e3, S.v4, S.e4, S.v5, S.v6, S.v7, S.v8, S.e8, S.f8, S.e9, S.v10⟩

theorem CpC.new (h : CpC w gv lv q l N E k L ρ W) : CpC w gv lv q l N E k (updB L 1) (upd ρ 1 (.slice (some ⟨W.heap.size, 0, none⟩) 0 0)) (W.alloc (.cells #[] 3)) := by
  obtain ⟨b, g, gc, a, c, H, x, y, S⟩ := h
  have hb : Below W.heap.size W (W.alloc (.cells #[] 3)) := (Below.refl _ _).alloc (Nat.le_refl _) _
  exact ⟨W.heap.size, g, gc, a, c, H, x, y, S.low.trans (hb.mono S.low.size), S.v0, fun _ => rfl, fun _ _ => ⟨S.low.size, heap_alloc_new _ _⟩, S.v2, S.v3, fun h h' => (S.e3 h h').later hb, S.v4, fun h => (S.e4 h).below hb (Nat.le_refl _), S.v5, S.v6, S.v7, S.v8, fun h => ⟨(S.e8 h).1, blk_later (S.e8 h).2 hb⟩, S.f8, S.e9, S.v10⟩

theorem CpC.move (h : CpC w gv lv q l N E k L ρ W) : CpC w gv lv q l N E k (updB L 2) (upd ρ 2 lv) W := by
  obtain ⟨b, g, gc, a, c, H, x, y, S⟩ := h
  exact ⟨b, g, gc, a, c, H, x, y, S.low, S.v0, S.v1, S.e1, fun _ => rfl, S.v3, S.e3, S.v4, S.e4, S.v5, S.v6, S.v7, S.v8, S.e8, S.f8, S.e9, S.v10⟩

theorem CpC.copy (h : CpC w gv lv q l N E k L ρ W) {g' c' : Nat} (hb : Below W.heap.size W W') (hi : IntsAt W' (some ⟨g', 0, none⟩) l) : CpC w gv lv q l N E k (updB L 3) (upd ρ 3 (.slice (some ⟨g', 0, none⟩) q c')) W' := by
  obtain ⟨b, g, gc, a, c, H, x, y, S⟩ := h
  exact ⟨b, g', c', a, c, H, x, y, S.low.trans (hb.mono S.low.size), S.v0, S.v1, fun _ h => (by cases h), S.v2, fun _ => rfl, fun _ _ => hi, S.v4, fun h => (S.e4 h).below hb (Nat.le_refl _), S.v5, S.v6, S.v7, S.v8, fun h => ⟨(S.e8 h).1, blk_later (S.e8 h).2 hb⟩, S.f8, S.e9, S.v10⟩

theorem CpC.call (h : CpC w gv lv q l N E k L ρ W) {a' : Option Addr} {c' : Nat} (hb : Below W.heap.size W W') (ho : OwnE W' W.heap.size (.slice a' E.length c') E) (h5 : L 5 = false) (h6 : L 6 = false) (h9 : L 9 = false) : CpC w gv lv q l N E k (updB L 4) (upd ρ 4 (.tuple #[.agg #[.int .i64 N, .slice a' E.length c'], .int .i64 k])) W' := by
  obtain ⟨b, g, gc, a, c, H, x, y, S⟩ := h
  refine ⟨b, g, gc, a', c', H, x, y, S.low.trans (hb.mono S.low.size), S.v0, S.v1, fun h h' => ⟨(S.e1 h h').1, blk_later (S.e1 h h').2 hb⟩, S.v2, S.v3, fun _ h => (by cases h), fun _ => rfl, fun _ => ho.lower S.low.size, fun h => ?_, fun h => ?_, S.v7, S.v8, fun h => ⟨(S.e8 h).1, blk_later (S.e8 h).2 hb⟩, fun _ h => ho.far (lt_of_block (S.e8 h).2), fun h => ?_, S.v10⟩
  · rw [show L 5 = true from h] at h5; cases h5
  · rw [show L 6 = true from h] at h6; cases h6
  · rw [show L 9 = true from h] at h9; cases h9

/-- What the call answered is read off. -/
theorem CpC.five (h : CpC w gv lv q l N E k L ρ W) (h4 : L 4 = true) : CpC w gv lv q l N E k (updB L 5) (upd ρ 5 (ρ 4)) W := by
  obtain ⟨b, g, gc, a, c, H, x, y, S⟩ := h
  exact ⟨b, g, gc, a, c, H, x, y, S.low, S.v0, S.v1, S.e1, S.v2, S.v3, S.e3, S.v4, S.e4, fun _ => S.v4 h4, S.v6, S.v7, S.v8, S.e8, S.f8, S.e9, S.v10⟩
theorem CpC.six (h : CpC w gv lv q l N E k L ρ W) (h5 : L 5 = true) : ∃ a c, ρ 5 = .tuple #[.agg #[.int .i64 N, .slice a E.length c], .int .i64 k] ∧ CpC w gv lv q l N E k (updB L 6) (upd ρ 6 (.agg #[.int .i64 N, .slice a E.length c])) W := by
  obtain ⟨b, g, gc, a, c, H, x, y, S⟩ := h
  exact ⟨a, c, S.v5 h5, b, g, gc, a, c, H, x, y, S.low, S.v0, S.v1, S.e1, S.v2, S.v3, S.e3, S.v4, S.e4, S.v5, fun _ => rfl, S.v7, S.v8, S.e8, S.f8, S.e9, S.v10⟩
theorem CpC.seven (h : CpC w gv lv q l N E k L ρ W) (h5 : L 5 = true) : ∃ a c, ρ 5 = .tuple #[.agg #[.int .i64 N, .slice a E.length c], .int .i64 k] ∧ CpC w gv lv q l N E k (updB L 7) (upd ρ 7 (.int .i64 k)) W := by
  obtain ⟨b, g, gc, a, c, H, x, y, S⟩ := h
  exact ⟨a, c, S.v5 h5, b, g, gc, a, c, H, x, y, S.low, S.v0, S.v1, S.e1, S.v2, S.v3, S.e3, S.v4, S.e4, S.v5, S.v6, fun _ => rfl, S.v8, S.e8, S.f8, S.e9, S.v10⟩
theorem CpC.box (h : CpC w gv lv q l N E k L ρ W) (h9 : L 9 = false) (x' y' : Value) : CpC w gv lv q l N E k (updB L 8) (upd ρ 8 (.pointer (some ⟨W.heap.size, 0, none⟩))) (W.alloc (.cells #[x', y'] 24)) := by
  obtain ⟨b, g, gc, a, c, H, x, y, S⟩ := h
  have hb : Below W.heap.size W (W.alloc (.cells #[x', y'] 24)) := (Below.refl _ _).alloc (Nat.le_refl _) _
  refine ⟨b, g, gc, a, c, W.heap.size, x', y', S.low.trans (hb.mono S.low.size), S.v0, S.v1, fun h h' => ⟨(S.e1 h h').1, blk_later (S.e1 h h').2 hb⟩, S.v2, S.v3, fun h h' => (S.e3 h h').later hb, S.v4, fun h => (S.e4 h).below hb (Nat.le_refl _), S.v5, S.v6, S.v7, fun _ => rfl, fun _ => ⟨S.low.size, heap_alloc_new _ _⟩, fun h _ e => ?_, fun h => ?_, S.v10⟩
  · have := (World.ownsRow.lt (S.e4 h) _ e).2
    omega
  · rw [show L 9 = true from h] at h9; cases h9
theorem CpC.store (h : CpC w gv lv q l N E k L ρ W) (h3 : L 3 = true) (h4 : L 4 = true) (h6 : L 6 = true) (h8 : L 8 = true) (u : Value) : ∃ H a c x y, ρ 8 = .pointer (some ⟨H, 0, none⟩) ∧ ρ 6 = .agg #[.int .i64 N, .slice a E.length c] ∧ W.heap[H]? = some (.cells #[x, y] 24 (0, 0)) ∧ CpC w gv lv q l N E k (updB L 9) (upd ρ 9 u) ((W.setCell ⟨H, 0, none⟩ (.int .i64 N)).setCell ⟨H, 1, none⟩ (.slice a E.length c)) := by
  obtain ⟨b, g, gc, a, c, H, x, y, S⟩ := h
  obtain ⟨hH, hbox⟩ := S.e8 h8
  refine ⟨H, a, c, x, y, S.v8 h8, S.v6 h6, hbox, b, g, gc, a, c, H, _, _, (S.low.setCell hH _).setCell hH _, S.v0, S.v1, fun _ h => ?_, S.v2, S.v3, fun _ h => ?_, S.v4, fun _ => own_put2 (S.e4 h4) (S.f8 h4 h8) _ _, S.v5, S.v6, S.v7, S.v8, fun _ => ⟨hH, pair_set hbox _ _⟩, S.f8, fun _ => ⟨rfl, rfl⟩, S.v10⟩
  · rw [show L 3 = false from h] at h3; cases h3
  · rw [show L 4 = false from h] at h4; cases h4
theorem CpC.ten (h : CpC w gv lv q l N E k L ρ W) (h7 : L 7 = true) : CpC w gv lv q l N E k (updB L 10) (upd ρ 10 (ρ 7)) W := by
  obtain ⟨b, g, gc, a, c, H, x, y, S⟩ := h
  exact ⟨b, g, gc, a, c, H, x, y, S.low, S.v0, S.v1, S.e1, S.v2, S.v3, S.e3, S.v4, S.e4, S.v5, S.v6, S.v7, S.v8, S.e8, S.f8, S.e9, fun _ => S.v7 h7⟩

/-- All have come up. -/
theorem CpC.done (h : CpC w gv lv q l N E k L ρ W) (hall : ∀ i, i < 11 → L i = true) : ∃ H a c, ρ 8 = .pointer (some ⟨H, 0, none⟩) ∧ ρ 10 = .int .i64 k ∧ Got W H N E a c ∧ Below w.heap.size w W := by
  obtain ⟨b, g, gc, a, c, H, x, y, S⟩ := h
  obtain ⟨rfl, rfl⟩ := S.e9 (hall 9 (by omega))
  obtain ⟨a', c', e, h1, h2, h3, _⟩ := (S.e4 (hall 4 (by omega))).form
  cases e
  exact ⟨H, a, c, S.v8 (hall 8 (by omega)), S.v10 (hall 10 (by omega)), ⟨(S.e8 (hall 8 (by omega))).2, h3, by unfold maxLen at h2; omega⟩, S.low⟩
end

end Go.Proofs.Ytdkckdbpbdhoaaa

/-
  Answers that came one after the other, each graph in a box; and one that is asked of numbers in a row, in a region that draws its order.
-/
namespace Go.Proofs.Ytdkckdbpbdhoaaa
open Go.RowKit

/-- An answer: its box, how many vertices, its edges' slice, its edges. -/
structure Ent where
  box : Nat
  n : Int
  v : Value
  l : List (Int × Int)

/-- They lie there, each with memory of its own; a list u of the numbers z too. -/
structure Bag (lo : Nat) (A : List Ent) (u : Value) (z : List Int) (W : World) : Prop where
  boxes : ∀ (j : Nat) (e : Ent), A[j]? = some e → W.heap[e.box]? = some (.cells #[.int .i64 e.n, e.v] 24 (0, 0))
  own : ∀ (j : Nat) (e : Ent), A[j]? = some e → OwnE W lo e.v e.l
  apart : ∀ (j j' : Nat) (e e' : Ent) (b : Nat), j ≠ j' → A[j]? = some e → A[j']? = some e' → e.v.ownBlock = some b → e'.v.ownBlock ≠ some b
  list : OwnZ W lo u z
  far : ∀ (j : Nat) (e : Ent) (b : Nat), A[j]? = some e → e.v.ownBlock = some b → u.ownBlock ≠ some b

section
variable {lo : Nat} {A : List Ent} {u : Value} {z : List Int} {W W' : World}

theorem Bag.nil (lo : Nat) (W : World) : Bag lo [] (.slice none 0 0) [] W := ⟨fun j e h => by simp at h, fun j e h => by simp at h, fun j j' e e' b _ h => by simp at h, OwnZ.nil _ _, fun j e b h => by simp at h⟩
theorem Bag.later (h : Bag lo A u z W) (hb : Below W.heap.size W W') : Bag lo A u z W' := ⟨fun j e he => blk_later (h.boxes j e he) hb, fun j e he => (h.own j e he).below hb (Nat.le_refl _), h.apart, h.list.later hb, h.far⟩

theorem last_of {α : Type} {A : List α} {x y : α} {j : Nat} (h : (A ++ [x])[j]? = some y) : (j < A.length ∧ A[j]? = some y) ∨ (j = A.length ∧ y = x) := by
  by_cases hj : j < A.length
  · rw [List.getElem?_append_left hj] at h
    exact .inl ⟨hj, h⟩
  · rw [List.getElem?_append_right (by omega)] at h
    have hl := (List.getElem?_eq_some_iff.1 h).1
    have e : j - A.length = 0 := by simp at hl; omega
    rw [e] at h
    exact .inr ⟨by omega, (Option.some.inj h).symm⟩

/-- One more: W' lies behind W; its edges are new; its box has come. -/
theorem Bag.add (h : Bag lo A u z W) (hlo : lo ≤ W.heap.size) (hb : Below W.heap.size W W') {n : Int} {v : Value} {l : List (Int × Int)} {H : Nat} (ho : OwnE W' W.heap.size v l) (hx : W'.heap[H]? = some (.cells #[.int .i64 n, v] 24 (0, 0))) : Bag lo (A ++ [⟨H, n, v, l⟩]) u z W' := by
  have old : ∀ (j : Nat) (e : Ent) (b : Nat), A[j]? = some e → e.v.ownBlock = some b → v.ownBlock ≠ some b := fun j e b he hb1 hb2 => by
    have h1 := (World.ownsRow.lt (h.own j e he) b hb1).2
    have h2 := (World.ownsRow.lt ho b hb2).1
    omega
  refine ⟨fun j e he => ?_, fun j e he => ?_, fun j j' e e' b hne he he' hb1 => ?_, h.list.later hb, fun j e b he hb1 => ?_⟩
  · rcases last_of he with ⟨_, h1⟩ | ⟨_, rfl⟩
    · exact blk_later (h.boxes j e h1) hb
    · exact hx
  · rcases last_of he with ⟨_, h1⟩ | ⟨_, rfl⟩
    · exact (h.own j e h1).below hb (Nat.le_refl _)
    · exact ho.lower hlo
  · rcases last_of he with ⟨_, h1⟩ | ⟨_, rfl⟩ <;> rcases last_of he' with ⟨_, h2⟩ | ⟨_, rfl⟩
    · exact h.apart j j' e e' b hne h1 h2 hb1
    · exact old j e b h1 hb1
    · intro hc
      exact old j' e' b h2 hc hb1
    · omega
  · rcases last_of he with ⟨_, h1⟩ | ⟨_, rfl⟩
    · exact h.far j e b h1 hb1
    · intro hc
      have h1 := (World.ownsRow.lt h.list b hc).2
      have h2 := (World.ownsRow.lt ho b hb1).1
      omega
theorem Bag.push (h : Bag lo A u z W) (hlo : lo ≤ W.heap.size) (hb : Below W.heap.size W W') {v : Value} {l : List (Int × Int)} (ho : OwnE W' W.heap.size v l) (n : Int) : Bag lo (A ++ [⟨W'.heap.size, n, v, l⟩]) u z (W'.alloc (.cells #[.int .i64 n, v] 24)) := by
  have hb1 : Below W'.heap.size W' (W'.alloc (.cells #[.int .i64 n, v] 24)) := (Below.refl _ _).alloc (Nat.le_refl _) _
  exact h.add hlo (hb.trans (hb1.mono hb.size)) (ho.below hb1 (Nat.le_refl _)) (heap_alloc_new _ _)
/-- The list has come with it. -/
theorem Bag.bare (h : Bag lo A (.slice none 0 0) [] W) (hlo : lo ≤ W.heap.size) (hb : Below W.heap.size W W') {v : Value} {l : List (Int × Int)} (ho : OwnE W' W.heap.size v l) (hz : OwnZ W' W.heap.size u z) (hvu : ∀ b, v.ownBlock = some b → u.ownBlock ≠ some b) (n : Int) : Bag lo (A ++ [⟨W'.heap.size, n, v, l⟩]) u z (W'.alloc (.cells #[.int .i64 n, v] 24)) := by
  have h1 := h.push hlo hb ho n
  have hb1 : Below W'.heap.size W' (W'.alloc (.cells #[.int .i64 n, v] 24)) := (Below.refl _ _).alloc (Nat.le_refl _) _
  refine ⟨h1.boxes, h1.own, h1.apart, (hz.later hb1).lower hlo, fun j e b he hb2 => ?_⟩
  rcases last_of he with ⟨_, h2⟩ | ⟨_, rfl⟩
  · intro hc
    have h3 := (World.ownsRow.lt (h.own j e h2) b hb2).2
    have h4 := (World.ownsRow.lt hz b hc).1
    omega
  · exact hvu b hb2

theorem Bag.cells (h : Bag lo A u z W) {j : Nat} {e : Ent} (he : A[j]? = some e) : W.cell? ⟨e.box, 0, none⟩ = some (.int .i64 e.n) ∧ W.cell? ⟨e.box, 1, none⟩ = some e.v := ⟨(pair_cells (h.boxes j e he)).1, (pair_cells (h.boxes j e he)).2.1⟩

/-- As graphs to be put behind others. -/
def Ent.pair (e : Ent) : Int × Value := (e.n, e.v)
theorem Bag.grs {B : Nat} {v v' : Value} {vs : List (Int × Value)} {ls : List (List (Int × Int))} {w1 : World} (h : Bag lo A u z W) (hG : Grs W B v vs ls) (hB : B ≤ lo) (hlt : ∀ b, (v.ownBlock = some b ∨ inG vs b) → b < lo)
    (hown : w1.ownsRow B 24 2 v' (ls.length + A.length) (flatG vs ++ flatG (A.map Ent.pair))) (hgrow : W.grownBy w1 v.ownBlock) (hat : v'.ownBlock = v.ownBlock ∨ v'.ownBlock = some W.heap.size) : Grs w1 B v' (vs ++ A.map Ent.pair) (ls ++ A.map (·.l)) := by
  have hget : ∀ (j : Nat) (p : Int × Value), (A.map Ent.pair)[j]? = some p → ∃ e, A[j]? = some e ∧ p = e.pair := fun j p hp => by
    rw [List.getElem?_map] at hp
    obtain ⟨e, he, rfl⟩ := Option.map_eq_some_iff.1 hp
    exact ⟨e, he, rfl⟩
  refine hG.more (by simp) (fun j p l hp hl => ?_) (fun j j' p p' b hne hp hp' hb => ?_) (fun b hb hc => ?_) (by simpa using hown) hgrow hat
  · obtain ⟨e, he, rfl⟩ := hget j p hp
    rw [List.getElem?_map, he] at hl
    cases hl
    exact (h.own j e he).lower hB
  · obtain ⟨e, he, rfl⟩ := hget j p hp
    obtain ⟨e', he', rfl⟩ := hget j' p' hp'
    exact h.apart j j' e e' b hne he he' hb
  · obtain ⟨j, p, hp, hb⟩ := hb
    obtain ⟨e, he, rfl⟩ := hget j p hp
    have h1 := (World.ownsRow.lt (h.own j e he) b hb).1
    have h2 := hlt b hc
    omega
end

/-- Operations: 0 the graph; 1 to 3 how many; 4 the numbers; 5 the call; 6 its answer; 7 the graph answered; 8 the error; 9 the box; 10 it is stored; 11 the error's place. -/
structure FrS (w : World) (gv pv sv : Value) (m : Nat) (l : List Int) (N : Int) (E : List (Int × Int)) (k : Int) (L : Nat → Bool) (ρ : Nat → Value) (W : World) (fa : Option Addr) (fc : Nat) (a : Option Addr) (c H : Nat) (x y : Value) : Prop where
  low : Below w.heap.size w W
  v0 : L 0 = true → ρ 0 = gv
  v1 : L 1 = true → ρ 1 = pv
  v2 : L 2 = true → ρ 2 = sv
  v3 : L 3 = true → ρ 3 = .int .i64 (m : Int)
  v4 : L 4 = true → ρ 4 = .slice fa m fc
  e4 : L 4 = true → L 5 = false → IntsAt W fa l
  v5 : L 5 = true → ρ 5 = .tuple #[.agg #[.int .i64 N, .slice a E.length c], .int .i64 k]
  e5 : L 5 = true → OwnE W w.heap.size (.slice a E.length c) E
  v6 : L 6 = true → ρ 6 = .tuple #[.agg #[.int .i64 N, .slice a E.length c], .int .i64 k]
  v7 : L 7 = true → ρ 7 = .agg #[.int .i64 N, .slice a E.length c]
  v8 : L 8 = true → ρ 8 = .int .i64 k
  v9 : L 9 = true → ρ 9 = .pointer (some ⟨H, 0, none⟩)
  e9 : L 9 = true → w.heap.size ≤ H ∧ W.heap[H]? = some (.cells #[x, y] 24 (0, 0))
  f9 : L 5 = true → L 9 = true → (Value.slice a E.length c).ownBlock ≠ some H
  e10 : L 10 = true → x = .int .i64 N ∧ y = .slice a E.length c
  v11 : L 11 = true → ρ 11 = .int .i64 k

def FrC (w : World) (gv pv sv : Value) (m : Nat) (l : List Int) (N : Int) (E : List (Int × Int)) (k : Int) (L : Nat → Bool) (ρ : Nat → Value) (W : World) : Prop := ∃ fa fc a c H x y, FrS w gv pv sv m l N E k L ρ W fa fc a c H x y

section
variable {w : World} {gv pv sv : Value} {m : Nat} {l : List Int} {N : Int} {E : List (Int × Int)} {k : Int} {L : Nat → Bool} {ρ : Nat → Value} {W W' : World}
open AnyOrd

theorem FrC.low (h : FrC w gv pv sv m l N E k L ρ W) : Below w.heap.size w W := by
  obtain ⟨fa, fc, a, c, H, x, y, S⟩ := h
  exact S.low
theorem FrC.start (hb : Below w.heap.size w W) : FrC w gv pv sv m l N E k (fun _ => false) ρ W :=
  ⟨none, 0, none, 0, 0, undef, undef, hb, nofun, nofun, nofun, nofun, nofun, nofun, nofun, nofun, nofun, nofun, nofun, nofun, nofun, nofun, nofun, nofun⟩
theorem FrC.zero (h : FrC w gv pv sv m l N E k L ρ W) : FrC w gv pv sv m l N E k (updB L 0) (upd ρ 0 gv) W := by
  obtain ⟨fa, fc, a, c, H, x, y, S⟩ := h
  exact ⟨fa, fc, a, c, H, x, y, S.low, fun _ => rfl, S.v1, S.v2, S.v3, S.v4, S.e4, S.v5, S.e5, S.v6, S.v7, S.v8, S.v9, S.e9, S.f9, S.e10, S.v11⟩
theorem FrC.one (h : FrC w gv pv sv m l N E k L ρ W) : FrC w gv pv sv m l N E k (updB L 1) (upd ρ 1 pv) W := by
  obtain ⟨fa, fc, a, c, H, x, y, S⟩ := h
  exact ⟨fa, fc, a, c, H, x, y, S.low, S.v0, fun _ => rfl, S.v2, S.v3, S.v4, S.e4, S.v5, S.e5, S.v6, S.v7, S.v8, S.v9, S.e9, S.f9, S.e10, S.v11⟩
theorem FrC.two (h : FrC w gv pv sv m l N E k L ρ W) : FrC w gv pv sv m l N E k (updB L 2) (upd ρ 2 sv) W := by
  obtain ⟨fa, fc, a, c, H, x, y, S⟩ := h
  exact ⟨fa, fc, a, c, H, x, y, S.low, S.v0, S.v1, fun _ => rfl, S.v3, S.v4, S.e4, S.v5, S.e5, S.v6, S.v7, S.v8, S.v9, S.e9, S.f9, S.e10, S.v11⟩
theorem FrC.three (h : FrC w gv pv sv m l N E k L ρ W) : FrC w gv pv sv m l N E k (updB L 3) (upd ρ 3 (.int .i64 (m : Int))) W := by
  obtain ⟨fa, fc, a, c, H, x, y, S⟩ := h
  exact ⟨fa, fc, a, c, H, x, y, S.low, S.v0, S.v1, S.v2, fun _ => rfl, S.v4, S.e4, S.v5, S.e5, S.v6, S.v7, S.v8, S.v9, S.e9, S.f9, S.e10, S.v11⟩
theorem FrC.four (h : FrC w gv pv sv m l N E k L ρ W) {fa' : Option Addr} {fc' : Nat} (hb : Below W.heap.size W W') (hi : IntsAt W' fa' l) : FrC w gv pv sv m l N E k (updB L 4) (upd ρ 4 (.slice fa' m fc')) W' := by
  obtain ⟨fa, fc, a, c, H, x, y, S⟩ := h
  exact ⟨fa', fc', a, c, H, x, y, S.low.trans (hb.mono S.low.size), S.v0, S.v1, S.v2, S.v3, fun _ => rfl, fun _ _ => hi, S.v5, fun h => (S.e5 h).below hb (Nat.le_refl _), S.v6, S.v7, S.v8, S.v9, fun h => ⟨(S.e9 h).1, blk_later (S.e9 h).2 hb⟩, S.f9, S.e10, S.v11⟩
theorem FrC.five (h : FrC w gv pv sv m l N E k L ρ W) {a' : Option Addr} {c' : Nat} (hb : Below W.heap.size W W') (ho : OwnE W' W.heap.size (.slice a' E.length c') E) (h6 : L 6 = false) (h7 : L 7 = false) (h10 : L 10 = false) : FrC w gv pv sv m l N E k (updB L 5) (upd ρ 5 (.tuple #[.agg #[.int .i64 N, .slice a' E.length c'], .int .i64 k])) W' := by
  obtain ⟨fa, fc, a, c, H, x, y, S⟩ := h
  refine ⟨fa, fc, a', c', H, x, y, S.low.trans (hb.mono S.low.size), S.v0, S.v1, S.v2, S.v3, S.v4, fun _ h => (by cases h), fun _ => rfl, fun _ => ho.lower S.low.size, fun h => ?_, fun h => ?_, S.v8, S.v9, fun h => ⟨(S.e9 h).1, blk_later (S.e9 h).2 hb⟩, fun _ h => ho.far (lt_of_block (S.e9 h).2), fun h => ?_, S.v11⟩
  · rw [show L 6 = true from h] at h6; cases h6
  · rw [show L 7 = true from h] at h7; cases h7
  · rw [show L 10 = true from h] at h10; cases h10
theorem FrC.six (h : FrC w gv pv sv m l N E k L ρ W) (h5 : L 5 = true) : FrC w gv pv sv m l N E k (updB L 6) (upd ρ 6 (ρ 5)) W := by
  obtain ⟨fa, fc, a, c, H, x, y, S⟩ := h
  exact ⟨fa, fc, a, c, H, x, y, S.low, S.v0, S.v1, S.v2, S.v3, S.v4, S.e4, S.v5, S.e5, fun _ => S.v5 h5, S.v7, S.v8, S.v9, S.e9, S.f9, S.e10, S.v11⟩
theorem FrC.seven (h : FrC w gv pv sv m l N E k L ρ W) (h6 : L 6 = true) : ∃ a c, ρ 6 = .tuple #[.agg #[.int .i64 N, .slice a E.length c], .int .i64 k] ∧ FrC w gv pv sv m l N E k (updB L 7) (upd ρ 7 (.agg #[.int .i64 N, .slice a E.length c])) W := by
  obtain ⟨fa, fc, a, c, H, x, y, S⟩ := h
  exact ⟨a, c, S.v6 h6, fa, fc, a, c, H, x, y, S.low, S.v0, S.v1, S.v2, S.v3, S.v4, S.e4, S.v5, S.e5, S.v6, fun _ => rfl, S.v8, S.v9, S.e9, S.f9, S.e10, S.v11⟩
theorem FrC.eight (h : FrC w gv pv sv m l N E k L ρ W) (h6 : L 6 = true) : ∃ a c, ρ 6 = .tuple #[.agg #[.int .i64 N, .slice a E.length c], .int .i64 k] ∧ FrC w gv pv sv m l N E k (updB L 8) (upd ρ 8 (.int .i64 k)) W := by
  obtain ⟨fa, fc, a, c, H, x, y, S⟩ := h
  exact ⟨a, c, S.v6 h6, fa, fc, a, c, H, x, y, S.low, S.v0, S.v1, S.v2, S.v3, S.v4, S.e4, S.v5, S.e5, S.v6, S.v7, fun _ => rfl, S.v9, S.e9, S.f9, S.e10, S.v11⟩
theorem FrC.nine (h : FrC w gv pv sv m l N E k L ρ W) (h10 : L 10 = false) (x' y' : Value) : FrC w gv pv sv m l N E k (updB L 9) (upd ρ 9 (.pointer (some ⟨W.heap.size, 0, none⟩))) (W.alloc (.cells #[x', y'] 24)) := by
  obtain ⟨fa, fc, a, c, H, x, y, S⟩ := h
  have hb : Below W.heap.size W (W.alloc (.cells #[x', y'] 24)) := (Below.refl _ _).alloc (Nat.le_refl _) _
  refine ⟨fa, fc, a, c, W.heap.size, x', y', S.low.trans (hb.mono S.low.size), S.v0, S.v1, S.v2, S.v3, S.v4, fun h h' => (S.e4 h h').later hb, S.v5, fun h => (S.e5 h).below hb (Nat.le_refl _), S.v6, S.v7, S.v8, fun _ => rfl, fun _ => ⟨S.low.size, heap_alloc_new _ _⟩, fun h _ e => ?_, fun h => ?_, S.v11⟩
  · have := (World.ownsRow.lt (S.e5 h) _ e).2
    omega
  · rw [show L 10 = true from h] at h10; cases h10
theorem FrC.ten (h : FrC w gv pv sv m l N E k L ρ W) (h5 : L 5 = true) (h7 : L 7 = true) (h9 : L 9 = true) (u : Value) : ∃ H a c x y, ρ 9 = .pointer (some ⟨H, 0, none⟩) ∧ ρ 7 = .agg #[.int .i64 N, .slice a E.length c] ∧ W.heap[H]? = some (.cells #[x, y] 24 (0, 0)) ∧ FrC w gv pv sv m l N E k (updB L 10) (upd ρ 10 u) ((W.setCell ⟨H, 0, none⟩ (.int .i64 N)).setCell ⟨H, 1, none⟩ (.slice a E.length c)) := by
  obtain ⟨fa, fc, a, c, H, x, y, S⟩ := h
  obtain ⟨hH, hbox⟩ := S.e9 h9
  refine ⟨H, a, c, x, y, S.v9 h9, S.v7 h7, hbox, fa, fc, a, c, H, _, _, (S.low.setCell hH _).setCell hH _, S.v0, S.v1, S.v2, S.v3, S.v4, fun _ h => ?_, S.v5, fun _ => own_put2 (S.e5 h5) (S.f9 h5 h9) _ _, S.v6, S.v7, S.v8, S.v9, fun _ => ⟨hH, pair_set hbox _ _⟩, S.f9, fun _ => ⟨rfl, rfl⟩, S.v11⟩
  rw [show L 5 = false from h] at h5; cases h5
theorem FrC.eleven (h : FrC w gv pv sv m l N E k L ρ W) (h8 : L 8 = true) : FrC w gv pv sv m l N E k (updB L 11) (upd ρ 11 (ρ 8)) W := by
  obtain ⟨fa, fc, a, c, H, x, y, S⟩ := h
  exact ⟨fa, fc, a, c, H, x, y, S.low, S.v0, S.v1, S.v2, S.v3, S.v4, S.e4, S.v5, S.e5, S.v6, S.v7, S.v8, S.v9, S.e9, S.f9, S.e10, fun _ => S.v8 h8⟩

/-- All have come up. -/
theorem FrC.done (h : FrC w gv pv sv m l N E k L ρ W) (hall : ∀ i, i < 12 → L i = true) : ∃ H a c, ρ 9 = .pointer (some ⟨H, 0, none⟩) ∧ ρ 11 = .int .i64 k ∧ OwnE W w.heap.size (.slice a E.length c) E ∧ W.heap[H]? = some (.cells #[.int .i64 N, .slice a E.length c] 24 (0, 0)) ∧ Below w.heap.size w W := by
  obtain ⟨fa, fc, a, c, H, x, y, S⟩ := h
  obtain ⟨rfl, rfl⟩ := S.e10 (hall 10 (by omega))
  exact ⟨H, a, c, S.v9 (hall 9 (by omega)), S.v11 (hall 11 (by omega)), S.e5 (hall 5 (by omega)), (S.e9 (hall 9 (by omega))).2, S.low⟩
end

end Go.Proofs.Ytdkckdbpbdhoaaa

/-
  Numbers in a row, however many a graph may have edges.
-/
namespace Go.Proofs.Ytdkckdbpbdhoaaa
open Go.RowKit Go.Sort

set_option maxRecDepth 100000 in
set_option maxHeartbeats 4000000 in
theorem from_big (k m : Nat) (w : World) (hk : k ≤ 8796093022000) (hm : m ≤ 8796093022000) :
    Calls Try.prog 31 #[.int .i64 (k : Int), .int .i64 (m : Int)] w fun e w' => ∃ a c, e = .returned (.slice a m c) ∧ OwnZ w' w.heap.size (.slice a m c) (Ed.fr k m) ∧ Below w.heap.size w w' := by
  go_enter Try.func31, Try.ntmps31
  go_wp2
  go_loopw [5, 6] (fun v c wr => ∃ (j : Nat) (L : List Int), j ≤ m ∧ c = .int .i64 j ∧ L = Ed.fr k j ∧ OwnZ wr w.heap.size v L ∧ Below w.heap.size w wr) (fun _ c _ => m - (intOf c).toNat)
  case atStart => exact ⟨0, [], Nat.zero_le _, rfl, rfl, OwnZ.nil _ _, Below.refl _ _⟩
  case round =>
    obtain ⟨j, L, hj, rfl, hL, hrow, hb⟩ := hrel
    have HROW := Nu.hid hrow
    have HB := Nu.hid hb
    have HL := Nu.hid hL
    have hs0 : w.heap.size ≤ wr.heap.size := hb.size
    have hLl : L.length = j := by rw [hL]; exact Ed.fr_length k j
    have HLL := Nu.hid hLl
    by_cases hlt : j < m
    · have hlti : (j : Int) < (m : Int) := by omega
      obtain ⟨q, hq⟩ : ∃ q : Nat, (k : Int) + (j : Int) = (q : Int) := ⟨k + j, by omega⟩
      have hqn : k + j = q := by omega
      have HQN := Nu.hid hqn
      have hwq : IntKind.i64.wrap (q : Int) = (q : Int) := wrap_small _ (by omega) (by omega)
      clear hrow hb hL hLl hqn
      go_wp2_with (at_builtin; refine wpList_push rfl _ _ rfl _ w.heap.size _ L (q : Int) HROW.out hs0 (by have := HLL.out; omega) rfl rfl ?_; refine Hid.out ?_)
      refine Nu.hid ?_
      intro v' w3 hrow3 _ _ hb3
      have HROW3 := Nu.hid hrow3
      have HB3 := Nu.hid (HB.out.trans hb3)
      clear hrow3 hb3
      go_wp2
      go_roundw
      case rel => exact ⟨j + 1, _, by omega, by go_num, by rw [Ed.fr_succ, HQN.out, HL.out], HROW3.out, HB3.out⟩
      case measure => simp [intOf]; omega
    · have hd : ¬ ((j : Int) < (m : Int)) := by omega
      obtain rfl : j = m := by omega
      obtain ⟨a, c, rfl, -, -⟩ := hrow.form
      rw [hLl] at HROW ⊢
      rw [hL] at HROW
      clear hrow hb hL hLl
      go_wp2
      go_ret
      exact ⟨a, c, rfl, HROW.out, HB.out⟩

end Go.Proofs.Ytdkckdbpbdhoaaa

/-
  Graphs out of graphs, pure: how many edges an answer has at most.
-/
namespace Go.Proofs.Ytdkckdbpbdhoaaa
namespace Ed
open Si

theorem named_few (ns : List Int) (es : List E) : (named ns es).length ≤ es.length := by
  unfold named
  have h1 := (made_length (pr ns es) []).2
  have h2 := pr_length ns es
  simp at h1
  omega
theorem without_few (n : Int) (es : List E) (e : Int) : (without n es e).2.1.length ≤ 4194304 := by
  unfold without
  split
  · simp
  · rename_i hv
    have hf := (valid_iff.1 (by simpa using hv)).few
    split
    · simp
    · exact Nat.le_trans (List.length_eraseIdx_le _ _) hf
theorem withE_few (n : Int) (es : List E) (x : E) : (withE n es x).2.1.length ≤ 4194304 := by
  unfold withE
  split
  · simp
  · split
    · simp
    · split
      · simp
      · split
        · simp
        · have := (put_length es x).2
          dsimp only
          omega
theorem sub_few (n : Int) (es : List E) (l : List Int) : (sub n es l).2.1.length ≤ 4194304 := by
  unfold sub
  split
  · simp
  · rename_i hv
    have hf := (valid_iff.1 (by simpa using hv)).few
    split
    · simp
    · exact Nat.le_trans (sel_sub _ _).length_le hf
theorem beside_few (n : Int) (es : List E) (n' : Int) (es' : List E) : (beside n es n' es').2.1.length ≤ 4194304 := by
  unfold beside
  split
  · simp
  · split
    · simp
    · simp [sh]
      omega
theorem relabel_few (n : Int) (es : List E) (l : List Int) : (relabel n es l).2.1.length ≤ 4194304 := by
  unfold relabel
  split
  · simp
  · rename_i hv
    have hf := (valid_iff.1 (by simpa using hv)).few
    split
    · simp
    · exact Nat.le_trans (named_few _ _) hf
theorem divide_few (n : Int) (es : List E) (e : Int) : (divide n es e).2.1.length ≤ 4194305 := by
  unfold divide
  split
  · simp
  · split
    · simp
    · split
      · simp
      · have h1 := (put_length (es.eraseIdx e.toNat) ((es.getD e.toNat (0, 0)).1, n)).2
        have h2 := (put_length (put (es.eraseIdx e.toNat) ((es.getD e.toNat (0, 0)).1, n)) ((es.getD e.toNat (0, 0)).2, n)).2
        have h3 := List.length_eraseIdx_le es e.toNat
        dsimp only
        omega
theorem spk_few (n : Int) (es : List E) : ∀ k, (spk n es k).length ≤ es.length + k
  | 0 => Nat.le_refl _
  | k + 1 => by
    have := spk_few n es k
    have h := (put_length (spk n es k) ((k : Int), n)).2
    simp only [spk]
    omega
theorem apex_few (n : Int) (es : List E) : (apex n es).2.1.length ≤ 4194304 := by
  unfold apex
  split
  · simp
  · rename_i hv
    have h0 := (valid_iff.1 (show valid n es = true by simpa using hv)).lo
    split
    · simp
    · have := spk_few n es n.toNat
      dsimp only
      omega
theorem bare_few (n : Int) (es : List E) : (bare n es).2.1.length ≤ 4194304 := by
  unfold bare
  split
  · simp
  · rename_i hv
    have hf := (valid_iff.1 (show valid n es = true by simpa using hv)).few
    exact Nat.le_trans (named_few _ _) hf
theorem bareL_few (n : Int) (es : List E) : (bareL n es).length ≤ 1048576 := by
  unfold bareL
  split
  · simp
  · rename_i hv
    have h1 := (valid_iff.1 (show valid n es = true by simpa using hv)).hi
    have h2 := bl_length es n.toNat
    omega
theorem induced_few (n : Int) (es : List E) (l : List Int) : (induced n es l).2.1.length ≤ 4194304 := by
  unfold induced
  split
  · simp
  · rename_i hv
    have hf := (valid_iff.1 (show valid n es = true by simpa using hv)).few
    split
    · simp
    · exact Nat.le_trans (named_few _ _) hf

end Ed
end Go.Proofs.Ytdkckdbpbdhoaaa
