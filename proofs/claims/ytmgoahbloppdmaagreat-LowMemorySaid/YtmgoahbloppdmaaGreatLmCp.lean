/-
  A copy of edges, of a region's operations in any order.
-/
import Derived.Test.YtmgoahbloppdmaaGreatDfSp
import Derived.Test.YtmgoahbloppdmaaGreatSiOwn
import Derived.Test.YtmgoahbloppdmaaGreatMg09
namespace Go.Proofs.YtmgoahbloppdmaaGreat
open Go.RowKit AnyOrd

theorem edge_news' {W : World} {y : Addr} {es : List (Int × Int)} (he : EdgesAt W (some y) es) : ∀ j u, (flatE es)[j]? = some u → W.cell? (y.add j) = some u := by
  intro j u hj
  have hjl := (List.getElem?_eq_some_iff.1 hj).1
  rw [flatE_length] at hjl
  obtain ⟨p, hp⟩ : ∃ p, es[j / 2]? = some p := ⟨_, List.getElem?_eq_getElem (by omega)⟩
  obtain ⟨b, o, e, c0, c1⟩ := he (j / 2) p hp
  cases e
  obtain ⟨f0, f1⟩ := flatE_at es (j / 2) p hp
  have ea : ((⟨b, o, none⟩ : Addr).add j) = ⟨b, o + j, none⟩ := by
    by_cases h0 : j = 0 <;> simp [Addr.add, h0]
  rw [ea]
  by_cases hm : j % 2 = 0
  · have e : j / 2 * 2 = j := by omega
    rw [e] at f0 c0
    rw [f0] at hj
    cases hj
    exact c0
  · have e : j / 2 * 2 + 1 = j := by omega
    rw [e] at f1
    have e3 : o + j / 2 * 2 + 1 = o + j := by omega
    rw [e3] at c1
    rw [f1] at hj
    cases hj
    exact c1

/-- 'append([]api.Edge{}, es...)', run: the empty list lies in block b. -/
theorem run_copyE (ty : TypeId) (W : World) (b : Nat) (ao : Option Addr) (ca : Nat) (es : List (Int × Int)) (hb : W.heap[b]? = some (.cells #[] 47 (0, 0))) (he : EdgesAt W ao es) (hnil : ao = none → es = [] ∧ ca = 0) (hn : es.length * 16 ≤ 140737488351232) :
    ∃ g c w', (Builtin.append_ #[22, 22] ty #[.slice (some ⟨b, 0, none⟩) 0 0, .slice ao es.length ca]).run Tryz.prog W = .ok (.slice (some ⟨g, 0, none⟩) es.length c) w' ∧ (g = b ∨ W.heap.size ≤ g) ∧ (∀ B, B ≤ b → OwnE w' B (.slice (some ⟨g, 0, none⟩) es.length c) es) ∧ g < w'.heap.size ∧ Below W.heap.size W w' := by
  obtain ⟨i0, hi, hz0, hz1, hz2⟩ := info_parts Tryz.infoEdge
  have hlt := lt_of_block hb
  have hown0 : ∀ B, B ≤ b → W.ownsRow B 47 2 (.slice (some ⟨b, 0, none⟩) 0 0) 0 [] := fun B hB => ⟨rfl, .inr ⟨b, 0, #[], rfl, hB, hb, Nat.le_refl _, by unfold maxLen; omega, rfl, rfl⟩⟩
  by_cases h0 : es = []
  · subst h0
    refine ⟨b, 0, W, ?_, .inl rfl, fun B hB => hown0 B hB, hlt, Below.refl _ _⟩
    cases ao with
    | none =>
      obtain ⟨_, rfl⟩ := hnil rfl
      exact run_append_owned_none (P := Tryz.prog) (w := W) b 22 ty 47 i0 2 Tryz.underlying22 hi _ 0 [] (hown0 b (Nat.le_refl _))
    | some y =>
      have := run_append_room_cells (P := Tryz.prog) W 22 ty 47 i0 Tryz.underlying22 hi b 0 0 0 y 0 ca [] (by simp) (fun j u hj => by simp at hj) (fun u hu => by simp at hu) (Nat.le_refl _) (fun j hj => by simp at hj) (fun j hj => by simp at hj)
      rw [List.length_nil, this]
      simp [World.setCells]
  · have hpos : 0 < es.length := List.length_pos_iff.2 h0
    obtain ⟨y, hy⟩ : ∃ y, ao = some y := by
      cases ao with
      | none => exact absurd (hnil rfl).1 h0
      | some y => exact ⟨y, rfl⟩
    subst hy
    obtain ⟨v', w', hrun, r1, r2⟩ := run_append_arg_grows (P := Tryz.prog) W 22 ty 47 i0 (.agg #[.int .i64 0, .int .i64 0]) 2 16 Tryz.underlying22 hi hz0 hz1 hz2 rfl (by decide) ⟨b, 0, none⟩ 0 0 [] rfl (fun j u hj => by simp at hj) y es.length ca (flatE es) (flatE_length es) (edge_news' he) (by omega) (by unfold maxLen; omega) (by omega)
    rw [Nat.zero_add, List.nil_append] at r1
    obtain ⟨k, hk⟩ : ∃ k, es.length = k + 1 := ⟨es.length - 1, by omega⟩
    rw [hk] at r1
    obtain ⟨g, c, rfl⟩ := own_succ r1
    rw [← hk] at r1 hrun
    have hg := World.ownsRow.lt r1 g rfl
    refine ⟨g, c, w', hrun, .inr hg.1, fun B hB => ?_, hg.2, ⟨r2.os, r2.tape, r2.output, r2.size, fun k hk => r2.block k hk (by simp)⟩⟩
    have : OwnE w' W.heap.size (.slice (some ⟨g, 0, none⟩) es.length c) es := r1
    exact this.lower (by omega)

/-- An empty list of edges; a copy; a new box. -/
def newSpE : OpSpec := ⟨[], fun v _ lo hi w => v = .slice (some ⟨lo, 0, none⟩) 0 0 ∧ lo < hi ∧ w.heap[lo]? = some (.cells #[] 47 (0, 0))⟩
def cpySpE (i j B : Nat) (es : List (Int × Int)) : OpSpec := ⟨[i, j], fun v vs lo hi w => ∃ g c b y, v = .slice (some ⟨g, 0, none⟩) es.length c ∧ vs = [.slice (some ⟨b, 0, none⟩) 0 0, y] ∧ (g = b ∨ (lo ≤ g ∧ g < hi)) ∧ OwnE w B v es⟩
def boxSp (cs : Array Value) (t : TypeId) : OpSpec := ⟨[], fun v _ lo hi w => v = .pointer (some ⟨lo, 0, none⟩) ∧ lo < hi ∧ w.heap[lo]? = some (.cells cs t (0, 0))⟩

theorem newSpE.stab {v : Value} {vs : List Value} {lo hi : Nat} {w w' : World} (hh : hi ≤ w.heap.size) (hb : Below w.heap.size w w') (h : newSpE.post v vs lo hi w) : newSpE.post v vs lo hi w' :=
  ⟨h.1, h.2.1, (hb.block lo (Nat.lt_of_lt_of_le h.2.1 hh)).trans h.2.2⟩
theorem boxSp.stab {cs : Array Value} {t : TypeId} {v : Value} {vs : List Value} {lo hi : Nat} {w w' : World} (hh : hi ≤ w.heap.size) (hb : Below w.heap.size w w') (h : (boxSp cs t).post v vs lo hi w) : (boxSp cs t).post v vs lo hi w' :=
  ⟨h.1, h.2.1, (hb.block lo (Nat.lt_of_lt_of_le h.2.1 hh)).trans h.2.2⟩
theorem cpySpE.stab {i j B : Nat} {l : List (Int × Int)} {v : Value} {vs : List Value} {lo hi : Nat} {w w' : World} (hb : Below w.heap.size w w') (h : (cpySpE i j B l).post v vs lo hi w) : (cpySpE i j B l).post v vs lo hi w' := by
  obtain ⟨g, c, b, y, h1, h2, h3, h4⟩ := h
  exact ⟨g, c, b, y, h1, h2, h3, h4.below hb (Nat.le_refl _)⟩

theorem gives_copyE {i j B lo ca : Nat} {es : List (Int × Int)} {t a b : Tmp} {ps : String} {af : Array Edge} {ev : Operand → Value} {U : World} {x y : Value} {ao : Option Addr} (ha : ev (.tmp a) = x) (hb : ev (.tmp b) = y) (hx : x = .slice (some ⟨lo, 0, none⟩) 0 0) (hblk : U.heap[lo]? = some (.cells #[] 47 (0, 0))) (hB : B ≤ lo) (hy : y = .slice ao es.length ca) (hl : EdgesAt U ao es) (hnil : ao = none → es = [] ∧ ca = 0) (hn : es.length * 16 ≤ 140737488351232) :
    Gives Tryz.prog { dst := some t, op := .call { callee := .builtin .append, args := #[.tmp a, .tmp b], argTypes := #[22, 22] }, type := 22, pos := ps, after := af, guard := none } ev U fun v w' => Below U.heap.size U w' ∧ (cpySpE i j B es).post v [x, y] U.heap.size w'.heap.size w' := by
  obtain ⟨g, c, w', hrun, h1, h2, h3, h4⟩ := run_copyE 22 U lo ao ca es hblk hl hnil hn
  refine gives_value (v := .slice (some ⟨g, 0, none⟩) es.length c) (w' := w') ?_ ⟨h4, g, c, lo, y, rfl, by rw [hx], ?_, h2 B hB⟩
  · simp [execOp, resolve, invoke, builtin, ha, hb, hx, hy, hrun, Result.andThen]
  · rcases h1 with h1 | h1
    · exact .inl h1
    · exact .inr ⟨h1, h3⟩

/-- The operations of 'api.Graph{N: g.N, Edges: append([]api.Edge{}, g.Edges...)}' in a box. -/
def mcSpec (b B : Nat) (n : Int) (ao : Option Addr) (ca : Nat) (es : List (Int × Int)) : Nat → OpSpec
  | 0 => fldSp b 0
  | 1 => lodSp 0 (.int .i64 n)
  | 2 => newSpE
  | 3 => fldSp b 1
  | 4 => lodSp 3 (.slice ao es.length ca)
  | 5 => cpySpE 2 4 B es
  | 6 => ⟨[1, 5], fun v vs _ _ _ => ∃ x1 x2, vs = [x1, x2] ∧ v = .agg #[x1, x2]⟩
  | _ => boxSp #[.int .i64 0, .slice none 0 0] 24

theorem own_keep8 {w w' : World} {B : Nat} {v : Value} {es : List (Int × Int)} (h : OwnE w B v es) (hk : ∀ g, v.ownBlock = some g → w'.heap[g]? = w.heap[g]?) : OwnE w' B v es := by
  refine ⟨h.1, ?_⟩
  rcases h.2 with h | ⟨g, cap, cur, e, hgB, hh, hr⟩
  · exact .inl h
  · exact .inr ⟨g, cap, cur, e, hgB, (hk g (by rw [e]; rfl)).trans hh, hr⟩

/-- The operations of a forest's copy in a box. -/
def mfSpec (b B : Nat) (f : For) (s : Df.St) (i : Nat) : OpSpec := if i < 17 then fcSpec b B f s i else boxSp #[.slice none 0 0, .slice none 0 0, .slice none 0 0, .slice none 0 0] 27

/-- Two cells are written. -/
abbrev put2 (w : World) (R : Nat) (a b : Value) : World := (w.setCell ⟨R, 0, none⟩ a).setCell ⟨R, 1, none⟩ b
theorem put2_heap {w : World} {R : Nat} {t : TypeId} {x y : Value} (h : w.heap[R]? = some (.cells #[x, y] t (0, 0))) (a b : Value) : (put2 w R a b).heap[R]? = some (.cells #[a, b] t (0, 0)) := by
  have h1 := heap_setCell_same w R 0 _ _ a h
  have h2 := heap_setCell_same (w.setCell ⟨R, 0, none⟩ a) R 1 _ _ b h1
  exact h2
theorem put2_other {w : World} {R g : Nat} (h : g ≠ R) (a b : Value) : (put2 w R a b).heap[g]? = w.heap[g]? := by
  unfold put2
  rw [heap_setCell_other _ ⟨R, 1, none⟩ g _ h, heap_setCell_other _ ⟨R, 0, none⟩ g _ h]
theorem below_put2 {w w' : World} {B R : Nat} (h : Below B w w') (hR : B ≤ R) (a b : Value) : Below B w (put2 w' R a b) := (h.setCell (p := ⟨R, 0, none⟩) hR a).setCell (p := ⟨R, 1, none⟩) hR b

theorem gives_store2 {t1 t2 : Tmp} {ty : TypeId} {ps : String} {af : Array Edge} {ev : Operand → Value} {V : World} {R x1 l1 d1 : Nat} {n : Int} {y1 y2 : Value} (h1 : ev (.tmp t1) = .pointer (some ⟨R, 0, none⟩)) (h2 : ev (.tmp t2) = .agg #[.int .i64 n, .slice (some ⟨x1, 0, none⟩) l1 d1])
    (hb : V.heap[R]? = some (.cells #[y1, y2] 24 (0, 0))) :
    Gives Tryz.prog { dst := none, op := .store 24 (.tmp t1) (.tmp t2), type := ty, pos := ps, after := af, guard := none } ev V fun _ w' => w' = put2 V R (.int .i64 n) (.slice (some ⟨x1, 0, none⟩) l1 d1) := by
  obtain ⟨k0, k1, kf⟩ := pair_cells hb
  refine gives_skip ?_ rfl
  unfold put2
  simp [execOp, go_sem, h1, h2, k0, k1, kf]

end Go.Proofs.YtmgoahbloppdmaaGreat
