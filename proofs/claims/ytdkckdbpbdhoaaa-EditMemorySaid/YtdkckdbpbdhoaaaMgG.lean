import Derived.Test.YtdkckdbpbdhoaaaMgE
import Derived.Test.YtdkckdbpbdhoaaaMgC
import Derived.Test.YtdkckdbpbdhoaaaSiGin
import Derived.Test.YtdkckdbpbdhoaaaSiOwn
import Derived.Test.YtdkckdbpbdhoaaaSiIn
/-
  A region that draws its order: edges are copied into a list with room, and two more put behind them.
-/
namespace Go.Proofs.Ytdkckdbpbdhoaaa
open Go.RowKit

/-- Operations: 0, 1, 5, 6 the list; 2, 3 how long; 4 the new list; 7 the copy; 8, 9 the edges more; 10 their list; 11 all; 12 its place. -/
structure RoS (w : World) (pv sv : Value) (es : List (Int × Int)) (m m3 : Nat) (L : Nat → Bool) (ρ : Nat → Value) (W : World) (g b : Nat) : Prop where
  low : Below w.heap.size w W
  v0 : L 0 = true → ρ 0 = pv
  v1 : L 1 = true → ρ 1 = sv
  v2 : L 2 = true → ρ 2 = .int .i64 (m : Int)
  v3 : L 3 = true → ρ 3 = .int .i64 (m3 : Int)
  v4 : L 4 = true → ρ 4 = .slice (some ⟨g, 0, none⟩) 0 m3
  e4 : L 4 = true → L 7 = false → W.ownsRow w.heap.size 26 2 (.slice (some ⟨g, 0, none⟩) 0 m3) 0 []
  v5 : L 5 = true → ρ 5 = pv
  v6 : L 6 = true → ρ 6 = sv
  v7 : L 7 = true → ρ 7 = .slice (some ⟨g, 0, none⟩) m m3
  e7 : L 7 = true → L 11 = false → W.ownsRow w.heap.size 26 2 (.slice (some ⟨g, 0, none⟩) m m3) m (flatE es)
  v8 : L 8 = true → ρ 8 = .agg #[.int .i64 71, .int .i64 72]
  v9 : L 9 = true → ρ 9 = .agg #[.int .i64 73, .int .i64 74]
  v10 : L 10 = true → ρ 10 = .slice (some ⟨b, 0, none⟩) 2 2
  e10 : L 10 = true → L 11 = false → W.heap[b]? = some (.cells #[.int .i64 71, .int .i64 72, .int .i64 73, .int .i64 74] 26 (0, 0))
  f10 : L 4 = true → L 10 = true → b ≠ g
  lt4 : L 4 = true → w.heap.size ≤ g ∧ g < W.heap.size
  lt10 : L 10 = true → b < W.heap.size
  v11 : L 11 = true → ρ 11 = .slice (some ⟨g, 0, none⟩) (m + 2) m3
  e11 : L 11 = true → W.ownsRow w.heap.size 26 2 (.slice (some ⟨g, 0, none⟩) (m + 2) m3) (m + 2) (flatE es ++ [.int .i64 71, .int .i64 72, .int .i64 73, .int .i64 74])
  v12 : L 12 = true → ρ 12 = .slice (some ⟨g, 0, none⟩) (m + 2) m3

def RoC (w : World) (pv sv : Value) (es : List (Int × Int)) (m m3 : Nat) (L : Nat → Bool) (ρ : Nat → Value) (W : World) : Prop := ∃ g b, RoS w pv sv es m m3 L ρ W g b

section
variable {w : World} {pv sv : Value} {es : List (Int × Int)} {m m3 : Nat} {L : Nat → Bool} {ρ : Nat → Value} {W W' : World}
open AnyOrd

theorem row_later {B n : Nat} {v : Value} {xs : List Value} (h : W.ownsRow B 26 2 v n xs) (hb : Below W.heap.size W W') : W'.ownsRow B 26 2 v n xs := row_same h fun g _ _ hl => hb.block g hl

theorem RoC.low (h : RoC w pv sv es m m3 L ρ W) : Below w.heap.size w W := by
  obtain ⟨g, b, S⟩ := h
  exact S.low
theorem RoC.start (hb : Below w.heap.size w W) : RoC w pv sv es m m3 (fun _ => false) ρ W :=
  ⟨0, 0, hb, nofun, nofun, nofun, nofun, nofun, nofun, nofun, nofun, nofun, nofun, nofun, nofun, nofun, nofun, nofun, nofun, nofun, nofun, nofun, nofun⟩
theorem RoC.op0 (h : RoC w pv sv es m m3 L ρ W) : RoC w pv sv es m m3 (updB L 0) (upd ρ 0 pv) W := by
  obtain ⟨g, b, S⟩ := h
  exact ⟨g, b, S.low, fun _ => rfl, S.v1, S.v2, S.v3, S.v4, S.e4, S.v5, S.v6, S.v7, S.e7, S.v8, S.v9, S.v10, S.e10, S.f10, S.lt4, S.lt10, S.v11, S.e11, S.v12⟩
theorem RoC.op1 (h : RoC w pv sv es m m3 L ρ W) : RoC w pv sv es m m3 (updB L 1) (upd ρ 1 sv) W := by
  obtain ⟨g, b, S⟩ := h
  exact ⟨g, b, S.low, S.v0, fun _ => rfl, S.v2, S.v3, S.v4, S.e4, S.v5, S.v6, S.v7, S.e7, S.v8, S.v9, S.v10, S.e10, S.f10, S.lt4, S.lt10, S.v11, S.e11, S.v12⟩
theorem RoC.op2 (h : RoC w pv sv es m m3 L ρ W) : RoC w pv sv es m m3 (updB L 2) (upd ρ 2 (.int .i64 (m : Int))) W := by
  obtain ⟨g, b, S⟩ := h
  exact ⟨g, b, S.low, S.v0, S.v1, fun _ => rfl, S.v3, S.v4, S.e4, S.v5, S.v6, S.v7, S.e7, S.v8, S.v9, S.v10, S.e10, S.f10, S.lt4, S.lt10, S.v11, S.e11, S.v12⟩
theorem RoC.op3 (h : RoC w pv sv es m m3 L ρ W) : RoC w pv sv es m m3 (updB L 3) (upd ρ 3 (.int .i64 (m3 : Int))) W := by
  obtain ⟨g, b, S⟩ := h
  exact ⟨g, b, S.low, S.v0, S.v1, S.v2, fun _ => rfl, S.v4, S.e4, S.v5, S.v6, S.v7, S.e7, S.v8, S.v9, S.v10, S.e10, S.f10, S.lt4, S.lt10, S.v11, S.e11, S.v12⟩
theorem RoC.op5 (h : RoC w pv sv es m m3 L ρ W) : RoC w pv sv es m m3 (updB L 5) (upd ρ 5 pv) W := by
  obtain ⟨g, b, S⟩ := h
  exact ⟨g, b, S.low, S.v0, S.v1, S.v2, S.v3, S.v4, S.e4, fun _ => rfl, S.v6, S.v7, S.e7, S.v8, S.v9, S.v10, S.e10, S.f10, S.lt4, S.lt10, S.v11, S.e11, S.v12⟩
theorem RoC.op6 (h : RoC w pv sv es m m3 L ρ W) : RoC w pv sv es m m3 (updB L 6) (upd ρ 6 sv) W := by
  obtain ⟨g, b, S⟩ := h
  exact ⟨g, b, S.low, S.v0, S.v1, S.v2, S.v3, S.v4, S.e4, S.v5, fun _ => rfl, S.v7, S.e7, S.v8, S.v9, S.v10, S.e10, S.f10, S.lt4, S.lt10, S.v11, S.e11, S.v12⟩
theorem RoC.op8 (h : RoC w pv sv es m m3 L ρ W) : RoC w pv sv es m m3 (updB L 8) (upd ρ 8 (.agg #[.int .i64 71, .int .i64 72])) W := by
  obtain ⟨g, b, S⟩ := h
  exact ⟨g, b, S.low, S.v0, S.v1, S.v2, S.v3, S.v4, S.e4, S.v5, S.v6, S.v7, S.e7, fun _ => rfl, S.v9, S.v10, S.e10, S.f10, S.lt4, S.lt10, S.v11, S.e11, S.v12⟩
theorem RoC.op9 (h : RoC w pv sv es m m3 L ρ W) : RoC w pv sv es m m3 (updB L 9) (upd ρ 9 (.agg #[.int .i64 73, .int .i64 74])) W := by
  obtain ⟨g, b, S⟩ := h
  exact ⟨g, b, S.low, S.v0, S.v1, S.v2, S.v3, S.v4, S.e4, S.v5, S.v6, S.v7, S.e7, S.v8, fun _ => rfl, S.v10, S.e10, S.f10, S.lt4, S.lt10, S.v11, S.e11, S.v12⟩
/-- The new list. -/
theorem RoC.op4 (h : RoC w pv sv es m m3 L ρ W) (h7 : L 7 = false) (h11 : L 11 = false) (h12 : L 12 = false) (hg : W.grownBy W' none) (ho : W'.ownsRow w.heap.size 26 2 (.slice (some ⟨W.heap.size, 0, none⟩) 0 m3) 0 []) : RoC w pv sv es m m3 (updB L 4) (upd ρ 4 (.slice (some ⟨W.heap.size, 0, none⟩) 0 m3)) W' := by
  obtain ⟨g, b, S⟩ := h
  have hb : Below W.heap.size W W' := (Below.refl _ _).grown hg (Nat.le_refl _) (fun j hj => by cases hj)
  have hsz := hb.size
  refine ⟨W.heap.size, b, S.low.trans (hb.mono S.low.size), S.v0, S.v1, S.v2, S.v3, fun _ => rfl, fun _ _ => ho, S.v5, S.v6, fun h => ?_, fun h => ?_, S.v8, S.v9, S.v10, fun h h' => (hb.block b (S.lt10 h)).trans (S.e10 h h'), fun _ h e => ?_, fun _ => World.ownsRow.lt ho _ rfl, fun h => Nat.lt_of_lt_of_le (S.lt10 h) hsz, fun h => ?_, fun h => ?_, fun h => ?_⟩
  · rw [show L 7 = true from h] at h7; cases h7
  · rw [show L 7 = true from h] at h7; cases h7
  · have := S.lt10 h; omega
  · rw [show L 11 = true from h] at h11; cases h11
  · rw [show L 11 = true from h] at h11; cases h11
  · rw [show L 12 = true from h] at h12; cases h12
/-- The list of the edges more. -/
theorem RoC.op10 (h : RoC w pv sv es m m3 L ρ W) (h11 : L 11 = false) : RoC w pv sv es m m3 (updB L 10) (upd ρ 10 (.slice (some ⟨W.heap.size, 0, none⟩) 2 2)) (W.alloc (.cells #[.int .i64 71, .int .i64 72, .int .i64 73, .int .i64 74] 26)) := by
  obtain ⟨g, b, S⟩ := h
  have hb : Below W.heap.size W (W.alloc (.cells #[.int .i64 71, .int .i64 72, .int .i64 73, .int .i64 74] 26)) := (Below.refl _ _).alloc (Nat.le_refl _) _
  refine ⟨g, W.heap.size, S.low.trans (hb.mono S.low.size), S.v0, S.v1, S.v2, S.v3, S.v4, fun h h' => row_later (S.e4 h h') hb, S.v5, S.v6, S.v7, fun h h' => row_later (S.e7 h h') hb, S.v8, S.v9, fun _ => rfl, fun _ _ => heap_alloc_new _ _, fun h _ e => ?_, fun h => ⟨(S.lt4 h).1, Nat.lt_of_lt_of_le (S.lt4 h).2 hb.size⟩, fun _ => by simp, S.v11, fun h => ?_, S.v12⟩
  · have := (S.lt4 h).2; omega
  · rw [show L 11 = true from h] at h11; cases h11
/-- The copy. -/
theorem RoC.op7 (h : RoC w pv sv es m m3 L ρ W) (h4 : L 4 = true) (h6 : L 6 = true) (h7 : L 7 = false) (h11 : L 11 = false) (h12 : L 12 = false) : ∃ g, ρ 4 = .slice (some ⟨g, 0, none⟩) 0 m3 ∧ ρ 6 = sv ∧ W.ownsRow w.heap.size 26 2 (.slice (some ⟨g, 0, none⟩) 0 m3) 0 [] ∧ (∀ W', W.grownBy W' (some g) → W'.ownsRow w.heap.size 26 2 (.slice (some ⟨g, 0, none⟩) m m3) m (flatE es) → RoC w pv sv es m m3 (updB L 7) (upd ρ 7 (.slice (some ⟨g, 0, none⟩) m m3)) W') := by
  obtain ⟨g, b, S⟩ := h
  refine ⟨g, S.v4 h4, S.v6 h6, S.e4 h4 h7, fun W' hg ho => ?_⟩
  have hsz := hg.size
  have hl4 := S.lt4 h4
  have hbw : Below w.heap.size W W' := (Below.refl _ _).grown hg S.low.size (fun j hj => by cases hj; exact hl4.1)
  refine ⟨g, b, S.low.trans hbw, S.v0, S.v1, S.v2, S.v3, S.v4, fun _ h => (by cases h), S.v5, S.v6, fun _ => rfl, fun _ _ => ho, S.v8, S.v9, S.v10, fun h h' => (hg.block b (S.lt10 h) (fun e => S.f10 h4 h (Option.some.inj e))).trans (S.e10 h h'), S.f10, fun _ => ⟨hl4.1, by omega⟩, fun h => Nat.lt_of_lt_of_le (S.lt10 h) hsz, fun h => ?_, fun h => ?_, fun h => ?_⟩
  · rw [show L 11 = true from h] at h11; cases h11
  · rw [show L 11 = true from h] at h11; cases h11
  · rw [show L 12 = true from h] at h12; cases h12
/-- All. -/
theorem RoC.op11 (h : RoC w pv sv es m m3 L ρ W) (h4 : L 4 = true) (h7 : L 7 = true) (h10 : L 10 = true) (h11 : L 11 = false) (h12 : L 12 = false) : ∃ g b, ρ 7 = .slice (some ⟨g, 0, none⟩) m m3 ∧ ρ 10 = .slice (some ⟨b, 0, none⟩) 2 2 ∧ W.ownsRow w.heap.size 26 2 (.slice (some ⟨g, 0, none⟩) m m3) m (flatE es) ∧ W.heap[b]? = some (.cells #[.int .i64 71, .int .i64 72, .int .i64 73, .int .i64 74] 26 (0, 0)) ∧ (∀ W', W.grownBy W' (some g) → W'.ownsRow w.heap.size 26 2 (.slice (some ⟨g, 0, none⟩) (m + 2) m3) (m + 2) (flatE es ++ [.int .i64 71, .int .i64 72, .int .i64 73, .int .i64 74]) → RoC w pv sv es m m3 (updB L 11) (upd ρ 11 (.slice (some ⟨g, 0, none⟩) (m + 2) m3)) W') := by
  obtain ⟨g, b, S⟩ := h
  refine ⟨g, b, S.v7 h7, S.v10 h10, S.e7 h7 h11, S.e10 h10 h11, fun W' hg ho => ?_⟩
  have hsz := hg.size
  have hl4 := S.lt4 h4
  have hbw : Below w.heap.size W W' := (Below.refl _ _).grown hg S.low.size (fun j hj => by cases hj; exact hl4.1)
  refine ⟨g, b, S.low.trans hbw, S.v0, S.v1, S.v2, S.v3, S.v4, fun _ h => ?_, S.v5, S.v6, S.v7, fun _ h => (by cases h), S.v8, S.v9, S.v10, fun _ h => (by cases h), S.f10, fun _ => ⟨hl4.1, by omega⟩, fun h => Nat.lt_of_lt_of_le (S.lt10 h) hsz, fun _ => rfl, fun _ => ho, fun h => ?_⟩
  · rw [show L 7 = false from h] at h7; cases h7
  · rw [show L 12 = true from h] at h12; cases h12
theorem RoC.op12 (h : RoC w pv sv es m m3 L ρ W) (h11 : L 11 = true) : RoC w pv sv es m m3 (updB L 12) (upd ρ 12 (ρ 11)) W := by
  obtain ⟨g, b, S⟩ := h
  exact ⟨g, b, S.low, S.v0, S.v1, S.v2, S.v3, S.v4, S.e4, S.v5, S.v6, S.v7, S.e7, S.v8, S.v9, S.v10, S.e10, S.f10, S.lt4, S.lt10, S.v11, S.e11, fun _ => S.v11 h11⟩
theorem RoC.done (h : RoC w pv sv es m m3 L ρ W) (hall : ∀ i, i < 13 → L i = true) : ∃ g, ρ 12 = .slice (some ⟨g, 0, none⟩) (m + 2) m3 ∧ W.ownsRow w.heap.size 26 2 (.slice (some ⟨g, 0, none⟩) (m + 2) m3) (m + 2) (flatE es ++ [.int .i64 71, .int .i64 72, .int .i64 73, .int .i64 74]) ∧ Below w.heap.size w W := by
  obtain ⟨g, b, S⟩ := h
  exact ⟨g, S.v12 (hall 12 (by omega)), S.e11 (hall 11 (by omega)), S.low⟩
end

end Go.Proofs.Ytdkckdbpbdhoaaa

/-
  A number and an edge that came in as one thing.
-/
namespace Go.Proofs.Ytdkckdbpbdhoaaa
open Go.ChangeShapes Go.WideShapes Go.ChangeAt Go.RowKit

theorem cellsWhat : Try.prog.cellsOf 55 = 3 := by kernel_rfl

section
variable {H : Type} {enc : TypeId × Value → H} {W : World}

theorem num_edge {e : TypeId} {f0 f1 : Field} (he : Try.prog.underlying e = some (.struct #[f0, f1])) (o0 : f0.offset = 0) (o1 : f1.offset = 1) (t0 : f0.type = 3) (t1 : f1.type = 26)
    {fuel : Nat} {u0 u1 u2 : Value} {x : DataW H × List MemPlace} (h : DataW.trod enc Try.prog W 0 (fun _ => true) true fuel e [u0, u1, u2] = some x) :
    ∃ (m : Nat) (y0 y1 : DataW H × List MemPlace), DataW.trod enc Try.prog W 0 (fun _ => true) true m 3 [u0] = some y0 ∧ DataW.trod enc Try.prog W 0 (fun _ => true) true m 26 [u1, u2] = some y1 := by
  obtain ⟨xs, m, _, hxx, hl, hx, hf⟩ := DataW.trod_struct he h
  match xs, hx with
  | [y0, y1], _ =>
    have g0 := hf 0 f0 rfl
    have g1 := hf 1 f1 rfl
    simp only [o0, o1, t0, t1, cellsEdge, cellsIntK] at g0 g1
    exact ⟨m, y0, y1, by simpa using g0, by simpa using g1⟩

set_option maxRecDepth 100000 in
/-- A What that came in. -/
theorem what_of_trod {base : Nat} {v : Value} {d : DataW H} {p : List MemPlace} (hval : Value.okWide Try.prog W .any base 55 v)
    (h : DataW.Trod enc Try.prog W 0 (fun _ => true) true 55 v d p) : ∃ (k : Int) (q : Int × Int), v = .agg #[.int .i64 k, .int .i64 q.1, .int .i64 q.2] ∧ (-9223372036854775808 ≤ k ∧ k ≤ 9223372036854775807) ∧ In64 q := by
  obtain ⟨cs, rfl, hcs⟩ := okWide_struct Try.underlying55 hval
  rw [cellsWhat] at hcs
  obtain ⟨fuel, hf⟩ := h
  obtain ⟨cl⟩ := cs
  match cl, hcs with
  | [u0, u1, u2], _ =>
    obtain ⟨m, y0, y1, g0, g1⟩ := num_edge Try.underlying55 rfl rfl rfl rfl hf
    obtain ⟨k, q0, _, w0⟩ := DataW.trod_int Try.underlying3 g0
    simp at q0
    subst q0
    obtain ⟨a, b, e, hw⟩ := two_edge g1
    simp at e
    obtain ⟨rfl, rfl⟩ := e
    exact ⟨k, (a, b), rfl, bounds_i64 w0, hw⟩
end

end Go.Proofs.Ytdkckdbpbdhoaaa

/-
  Edges that lie there, cell by cell.
-/
namespace Go.Proofs.Ytdkckdbpbdhoaaa
open Go.RowKit

theorem edge_news' {W : World} {y : Addr} {es : List (Int × Int)} (he : EdgesAt W (some y) es) : ∀ j u, (flatE es)[j]? = some u → W.cell? (y.add j) = some u := by
  intro j u hj
  have hjl := (List.getElem?_eq_some_iff.1 hj).1
  rw [flatE_length] at hjl
  obtain ⟨p, hp⟩ : ∃ p, es[j / 2]? = some p := ⟨_, List.getElem?_eq_getElem (by omega)⟩
  obtain ⟨b, o, e, c0, c1⟩ := he (j / 2) p hp
  cases e
  obtain ⟨f0, f1⟩ := flatE_at es (j / 2) p hp
  have ea : ((⟨b, o, none⟩ : Addr).add j) = ⟨b, o + j, none⟩ := by
    by_cases h0 : j = 0 <;> simp [Addr.add, h0]
  rw [ea]
  by_cases hm : j % 2 = 0
  · have e : j / 2 * 2 = j := by omega
    rw [e] at f0 c0
    rw [f0] at hj
    cases hj
    exact c0
  · have e : j / 2 * 2 + 1 = j := by omega
    rw [e] at f1
    have e3 : o + j / 2 * 2 + 1 = o + j := by omega
    rw [e3] at c1
    rw [f1] at hj
    cases hj
    exact c1

end Go.Proofs.Ytdkckdbpbdhoaaa
