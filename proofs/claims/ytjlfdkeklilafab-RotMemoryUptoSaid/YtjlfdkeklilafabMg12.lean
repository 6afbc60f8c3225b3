import Derived.Test.YtjlfdkeklilafabMg11
import Derived.Test.YtjlfdkeklilafabMg03
import Derived.Test.YtjlfdkeklilafabMg04
import Derived.Test.YtjlfdkeklilafabMg07
import Derived.Test.YtjlfdkeklilafabMg02
import Derived.Test.YtjlfdkeklilafabMg09
import Derived.Maps.AppendAt
import Derived.Laws.AppendOwnNone
import Derived.Test.YtjlfdkeklilafabMg01
import Derived.Test.YtjlfdkeklilafabMg05
/-
  A copy of edges, of a region's operations in any order.
-/
namespace Go.Proofs.Ytjlfdkeklilafab
open Go.RowKit AnyOrd

theorem edge_news' {W : World} {y : Addr} {es : List (Int × Int)} (he : EdgesAt W (some y) es) : ∀ j u, (flatE es)[j]? = some u → W.cell? (y.add j) = some u := by
  intro j u hj
  have hjl := (List.getElem?_eq_some_iff.1 hj).1
  rw [flatE_length] at hjl
  obtain ⟨p, hp⟩ : ∃ p, es[j / 2]? = some p := ⟨_, List.getElem?_eq_getElem (by omega)⟩
  obtain ⟨b, o, e, c0, c1⟩ := he (j / 2) p hp
  cases e
  obtain ⟨f0, f1⟩ := flatE_at es (j / 2) p hp
  have ea : ((⟨b, o, none⟩ : Addr).add j) = ⟨b, o + j, none⟩ := by
    by_cases h0 : j = 0 <;> simp [Addr.add, h0]
  rw [ea]
  by_cases hm : j % 2 = 0
  · have e : j / 2 * 2 = j := by omega
    rw [e] at f0 c0
    rw [f0] at hj
    cases hj
    exact c0
  · have e : j / 2 * 2 + 1 = j := by omega
    rw [e] at f1
    have e3 : o + j / 2 * 2 + 1 = o + j := by omega
    rw [e3] at c1
    rw [f1] at hj
    cases hj
    exact c1

/-- 'append([]api.Edge{}, es...)', run: the empty list lies in block b. -/
theorem run_copyE (ty : TypeId) (W : World) (b : Nat) (ao : Option Addr) (ca : Nat) (es : List (Int × Int)) (hb : W.heap[b]? = some (.cells #[] 47 (0, 0))) (he : EdgesAt W ao es) (hnil : ao = none → es = [] ∧ ca = 0) (hn : es.length * 16 ≤ 140737488351232) :
    ∃ g c w', (Builtin.append_ #[22, 22] ty #[.slice (some ⟨b, 0, none⟩) 0 0, .slice ao es.length ca]).run Try.prog W = .ok (.slice (some ⟨g, 0, none⟩) es.length c) w' ∧ (g = b ∨ W.heap.size ≤ g) ∧ (∀ B, B ≤ b → OwnE w' B (.slice (some ⟨g, 0, none⟩) es.length c) es) ∧ g < w'.heap.size ∧ Below W.heap.size W w' := by
  obtain ⟨i0, hi, hz0, hz1, hz2⟩ := info_parts Try.infoEdge
  have hlt := lt_of_block hb
  have hown0 : ∀ B, B ≤ b → W.ownsRow B 47 2 (.slice (some ⟨b, 0, none⟩) 0 0) 0 [] := fun B hB => ⟨rfl, .inr ⟨b, 0, #[], rfl, hB, hb, Nat.le_refl _, by unfold maxLen; omega, rfl, rfl⟩⟩
  by_cases h0 : es = []
  · subst h0
    refine ⟨b, 0, W, ?_, .inl rfl, fun B hB => hown0 B hB, hlt, Below.refl _ _⟩
    cases ao with
    | none =>
      obtain ⟨_, rfl⟩ := hnil rfl
      exact run_append_owned_none (P := Try.prog) (w := W) b 22 ty 47 i0 2 Try.underlying22 hi _ 0 [] (hown0 b (Nat.le_refl _))
    | some y =>
      have := run_append_room_cells (P := Try.prog) W 22 ty 47 i0 Try.underlying22 hi b 0 0 0 y 0 ca [] (by simp) (fun j u hj => by simp at hj) (fun u hu => by simp at hu) (Nat.le_refl _) (fun j hj => by simp at hj) (fun j hj => by simp at hj)
      rw [List.length_nil, this]
      simp [World.setCells]
  · have hpos : 0 < es.length := List.length_pos_iff.2 h0
    obtain ⟨y, hy⟩ : ∃ y, ao = some y := by
      cases ao with
      | none => exact absurd (hnil rfl).1 h0
      | some y => exact ⟨y, rfl⟩
    subst hy
    obtain ⟨v', w', hrun, r1, r2⟩ := run_append_arg_grows (P := Try.prog) W 22 ty 47 i0 (.agg #[.int .i64 0, .int .i64 0]) 2 16 Try.underlying22 hi hz0 hz1 hz2 rfl (by decide) ⟨b, 0, none⟩ 0 0 [] rfl (fun j u hj => by simp at hj) y es.length ca (flatE es) (flatE_length es) (edge_news' he) (by omega) (by unfold maxLen; omega) (by omega)
    rw [Nat.zero_add, List.nil_append] at r1
    obtain ⟨k, hk⟩ : ∃ k, es.length = k + 1 := ⟨es.length - 1, by omega⟩
    rw [hk] at r1
    obtain ⟨g, c, rfl⟩ := own_succ r1
    rw [← hk] at r1 hrun
    have hg := World.ownsRow.lt r1 g rfl
    refine ⟨g, c, w', hrun, .inr hg.1, fun B hB => ?_, hg.2, ⟨r2.os, r2.tape, r2.output, r2.size, fun k hk => r2.block k hk (by simp)⟩⟩
    have : OwnE w' W.heap.size (.slice (some ⟨g, 0, none⟩) es.length c) es := r1
    exact this.lower (by omega)

/-- An empty list of edges; a copy; a new box. -/
def newSpE : OpSpec := ⟨[], fun v _ lo hi w => v = .slice (some ⟨lo, 0, none⟩) 0 0 ∧ lo < hi ∧ w.heap[lo]? = some (.cells #[] 47 (0, 0))⟩
def cpySpE (i j B : Nat) (es : List (Int × Int)) : OpSpec := ⟨[i, j], fun v vs lo hi w => ∃ g c b y, v = .slice (some ⟨g, 0, none⟩) es.length c ∧ vs = [.slice (some ⟨b, 0, none⟩) 0 0, y] ∧ (g = b ∨ (lo ≤ g ∧ g < hi)) ∧ OwnE w B v es⟩
def boxSp (cs : Array Value) (t : TypeId) : OpSpec := ⟨[], fun v _ lo hi w => v = .pointer (some ⟨lo, 0, none⟩) ∧ lo < hi ∧ w.heap[lo]? = some (.cells cs t (0, 0))⟩

theorem newSpE.stab {v : Value} {vs : List Value} {lo hi : Nat} {w w' : World} (hh : hi ≤ w.heap.size) (hb : Below w.heap.size w w') (h : newSpE.post v vs lo hi w) : newSpE.post v vs lo hi w' :=
  ⟨h.1, h.2.1, (hb.block lo (Nat.lt_of_lt_of_le h.2.1 hh)).trans h.2.2⟩
theorem boxSp.stab {cs : Array Value} {t : TypeId} {v : Value} {vs : List Value} {lo hi : Nat} {w w' : World} (hh : hi ≤ w.heap.size) (hb : Below w.heap.size w w') (h : (boxSp cs t).post v vs lo hi w) : (boxSp cs t).post v vs lo hi w' :=
  ⟨h.1, h.2.1, (hb.block lo (Nat.lt_of_lt_of_le h.2.1 hh)).trans h.2.2⟩
theorem cpySpE.stab {i j B : Nat} {l : List (Int × Int)} {v : Value} {vs : List Value} {lo hi : Nat} {w w' : World} (hb : Below w.heap.size w w') (h : (cpySpE i j B l).post v vs lo hi w) : (cpySpE i j B l).post v vs lo hi w' := by
  obtain ⟨g, c, b, y, h1, h2, h3, h4⟩ := h
  exact ⟨g, c, b, y, h1, h2, h3, h4.below hb (Nat.le_refl _)⟩

theorem gives_copyE {i j B lo ca : Nat} {es : List (Int × Int)} {t a b : Tmp} {ps : String} {af : Array Edge} {ev : Operand → Value} {U : World} {x y : Value} {ao : Option Addr} (ha : ev (.tmp a) = x) (hb : ev (.tmp b) = y) (hx : x = .slice (some ⟨lo, 0, none⟩) 0 0) (hblk : U.heap[lo]? = some (.cells #[] 47 (0, 0))) (hB : B ≤ lo) (hy : y = .slice ao es.length ca) (hl : EdgesAt U ao es) (hnil : ao = none → es = [] ∧ ca = 0) (hn : es.length * 16 ≤ 140737488351232) :
    Gives Try.prog { dst := some t, op := .call { callee := .builtin .append, args := #[.tmp a, .tmp b], argTypes := #[22, 22] }, type := 22, pos := ps, after := af, guard := none } ev U fun v w' => Below U.heap.size U w' ∧ (cpySpE i j B es).post v [x, y] U.heap.size w'.heap.size w' := by
  obtain ⟨g, c, w', hrun, h1, h2, h3, h4⟩ := run_copyE 22 U lo ao ca es hblk hl hnil hn
  refine gives_value (v := .slice (some ⟨g, 0, none⟩) es.length c) (w' := w') ?_ ⟨h4, g, c, lo, y, rfl, by rw [hx], ?_, h2 B hB⟩
  · simp [execOp, resolve, invoke, builtin, ha, hb, hx, hy, hrun, Result.andThen]
  · rcases h1 with h1 | h1
    · exact .inl h1
    · exact .inr ⟨h1, h3⟩

/-- The operations of 'api.Graph{N: g.N, Edges: append([]api.Edge{}, g.Edges...)}' in a box. -/
def mcSpec (b B : Nat) (n : Int) (ao : Option Addr) (ca : Nat) (es : List (Int × Int)) : Nat → OpSpec
  | 0 => fldSp b 0
  | 1 => lodSp 0 (.int .i64 n)
  | 2 => newSpE
  | 3 => fldSp b 1
  | 4 => lodSp 3 (.slice ao es.length ca)
  | 5 => cpySpE 2 4 B es
  | 6 => ⟨[1, 5], fun v vs _ _ _ => ∃ x1 x2, vs = [x1, x2] ∧ v = .agg #[x1, x2]⟩
  | _ => boxSp #[.int .i64 0, .slice none 0 0] 24

theorem own_keep8 {w w' : World} {B : Nat} {v : Value} {es : List (Int × Int)} (h : OwnE w B v es) (hk : ∀ g, v.ownBlock = some g → w'.heap[g]? = w.heap[g]?) : OwnE w' B v es := by
  refine ⟨h.1, ?_⟩
  rcases h.2 with h | ⟨g, cap, cur, e, hgB, hh, hr⟩
  · exact .inl h
  · exact .inr ⟨g, cap, cur, e, hgB, (hk g (by rw [e]; rfl)).trans hh, hr⟩


/-- Two cells are written. -/
abbrev put2 (w : World) (R : Nat) (a b : Value) : World := (w.setCell ⟨R, 0, none⟩ a).setCell ⟨R, 1, none⟩ b
theorem put2_heap {w : World} {R : Nat} {t : TypeId} {x y : Value} (h : w.heap[R]? = some (.cells #[x, y] t (0, 0))) (a b : Value) : (put2 w R a b).heap[R]? = some (.cells #[a, b] t (0, 0)) := by
  have h1 := heap_setCell_same w R 0 _ _ a h
  have h2 := heap_setCell_same (w.setCell ⟨R, 0, none⟩ a) R 1 _ _ b h1
  exact h2
theorem put2_other {w : World} {R g : Nat} (h : g ≠ R) (a b : Value) : (put2 w R a b).heap[g]? = w.heap[g]? := by
  unfold put2
  rw [heap_setCell_other _ ⟨R, 1, none⟩ g _ h, heap_setCell_other _ ⟨R, 0, none⟩ g _ h]
theorem below_put2 {w w' : World} {B R : Nat} (h : Below B w w') (hR : B ≤ R) (a b : Value) : Below B w (put2 w' R a b) := (h.setCell (p := ⟨R, 0, none⟩) hR a).setCell (p := ⟨R, 1, none⟩) hR b

theorem gives_store2 {t1 t2 : Tmp} {ty : TypeId} {ps : String} {af : Array Edge} {ev : Operand → Value} {V : World} {R x1 l1 d1 : Nat} {n : Int} {y1 y2 : Value} (h1 : ev (.tmp t1) = .pointer (some ⟨R, 0, none⟩)) (h2 : ev (.tmp t2) = .agg #[.int .i64 n, .slice (some ⟨x1, 0, none⟩) l1 d1])
    (hb : V.heap[R]? = some (.cells #[y1, y2] 24 (0, 0))) :
    Gives Try.prog { dst := none, op := .store 24 (.tmp t1) (.tmp t2), type := ty, pos := ps, after := af, guard := none } ev V fun _ w' => w' = put2 V R (.int .i64 n) (.slice (some ⟨x1, 0, none⟩) l1 d1) := by
  obtain ⟨k0, k1, kf⟩ := pair_cells hb
  refine gives_skip ?_ rfl
  unfold put2
  simp [execOp, go_sem, h1, h2, k0, k1, kf]

end Go.Proofs.Ytjlfdkeklilafab

/-
  A list of lists gets many more.
-/
namespace Go.Proofs.Ytjlfdkeklilafab
open Go.RowKit

section
variable {B : Nat} {v v' : Value} {vs vs2 : List Value} {ls ls2 : List (List Int)}

/-- The lists vs2 are put behind vs. -/
theorem RowsZ.more {W w1 : World} (h : RowsZ W B v vs ls) (len2 : vs2.length = ls2.length) (row2 : ∀ (u : Nat) (x : Value) (l : List Int), vs2[u]? = some x → ls2[u]? = some l → OwnZ W B x l)
    (apart2 : ∀ (u u' : Nat) (x x' : Value) (b : Nat), u ≠ u' → vs2[u]? = some x → vs2[u']? = some x' → x.ownBlock = some b → x'.ownBlock ≠ some b) (hx : ∀ b, inV vs2 b → ¬ (v.ownBlock = some b ∨ inV vs b))
    (hown : w1.ownsRow B 39 1 v' (ls.length + ls2.length) (vs ++ vs2)) (hgrow : W.grownBy w1 v.ownBlock) (hat : v'.ownBlock = v.ownBlock ∨ v'.ownBlock = some W.heap.size) : RowsZ w1 B v' (vs ++ vs2) (ls ++ ls2) := by
  have hsame : ∀ g, v.ownBlock ≠ some g → g < W.heap.size → w1.heap[g]? = W.heap[g]? := fun g hne hg => hgrow.block g hg (fun e => hne e.symm)
  have hpart : ∀ u y, (vs ++ vs2)[u]? = some y → (u < vs.length ∧ vs[u]? = some y) ∨ (vs.length ≤ u ∧ vs2[u - vs.length]? = some y) := fun u y hy => by
    by_cases hu : u < vs.length
    · rw [List.getElem?_append_left hu] at hy
      exact .inl ⟨hu, hy⟩
    · rw [List.getElem?_append_right (by omega)] at hy
      exact .inr ⟨by omega, hy⟩
  have hat2 : ∀ {u : Nat} {x : Value}, vs2[u]? = some x → ∃ l, ls2[u]? = some l := fun {u x} hx => ⟨_, List.getElem?_eq_getElem (by rw [← len2]; exact (List.getElem?_eq_some_iff.1 hx).1)⟩
  refine ⟨by simp [h.len, len2], by rw [List.length_append]; exact hown, fun u y k hy hk => ?_, fun u u' y y' b hne hy hy' hb => ?_, fun u y b hy hb => ?_⟩
  · rcases hpart u y hy with ⟨hu, h1⟩ | ⟨hu, h1⟩
    · rw [List.getElem?_append_left (by rw [← h.len]; exact hu)] at hk
      exact (h.row u y k h1 hk).same fun g hg hl => hsame g (h.far u y g h1 hg) hl
    · rw [List.getElem?_append_right (by rw [← h.len]; exact hu), ← h.len] at hk
      exact (row2 _ y k h1 hk).same fun g hg hl => hsame g (fun e => hx g ⟨_, y, h1, hg⟩ (.inl e)) hl
  · rcases hpart u y hy with ⟨hu, h1⟩ | ⟨hu, h1⟩ <;> rcases hpart u' y' hy' with ⟨hu', h2⟩ | ⟨hu', h2⟩
    · exact h.apart u u' y y' b hne h1 h2 hb
    · intro hc
      exact hx b ⟨_, y', h2, hc⟩ (.inr ⟨u, y, h1, hb⟩)
    · intro hc
      exact hx b ⟨_, y, h1, hb⟩ (.inr ⟨u', y', h2, hc⟩)
    · exact apart2 _ _ y y' b (by omega) h1 h2 hb
  · intro hc
    rcases hat with e | e
    · rw [e] at hc
      rcases hpart u y hy with ⟨hu, h1⟩ | ⟨hu, h1⟩
      · exact h.far u y b h1 hb hc
      · exact hx b ⟨_, y, h1, hb⟩ (.inl hc)
    · have hbs := Option.some.inj (e.symm.trans hc)
      rcases hpart u y hy with ⟨hu, h1⟩ | ⟨hu, h1⟩
      · obtain ⟨k, hk⟩ := h.at h1
        have := (World.ownsRow.lt (h.row u y k h1 hk) b hb).2
        omega
      · obtain ⟨k, hk⟩ := hat2 h1
        have := (World.ownsRow.lt (row2 _ y k h1 hk) b hb).2
        omega

/-- Blocks of lists lie within the heap, above the base. -/
theorem RowsZ.within {W : World} (h : RowsZ W B v vs ls) {b : Nat} (hb : v.ownBlock = some b ∨ inV vs b) : B ≤ b ∧ b < W.heap.size := by
  rcases hb with hb | ⟨u, x, hx, hb⟩
  · exact World.ownsRow.lt h.outer b hb
  · obtain ⟨l, hl⟩ := h.at hx
    exact World.ownsRow.lt (h.row u x l hx hl) b hb
end

/-- 'append(v, xs...)' of lists of lists, in a region or not. -/
theorem wp_rows_more {U : World} {o : Oper} {a : Act} {K : Act → World → Prop} {Q : Exit → Act → World → Prop} (s x : Operand) (ho : o.op = .call { callee := .builtin .append, args := #[s, x], argTypes := #[25, 25] })
    (B : Nat) (v : Value) (vs vs2 : List Value) (ls ls2 : List (List Int)) (hR : RowsZ U B v vs ls) (hB : B ≤ U.heap.size) (hs : a.eval s = v) (xo : Option Addr) (m c : Nat) (hm : ls2.length = m) (hx : a.eval x = .slice xo m c) (hxn : xo = none → c = 0)
    (len2 : vs2.length = ls2.length) (hnews : ∀ j u, vs2[j]? = some u → ∃ ad, xo = some ad ∧ U.cell? (ad.add j) = some u) (hone : ∀ u ∈ vs2, u.oneCell' = true)
    (row2 : ∀ (u : Nat) (x : Value) (l : List Int), vs2[u]? = some x → ls2[u]? = some l → OwnZ U B x l)
    (apart2 : ∀ (u u' : Nat) (x x' : Value) (b : Nat), u ≠ u' → vs2[u]? = some x → vs2[u']? = some x' → x.ownBlock = some b → x'.ownBlock ≠ some b) (hdis : ∀ b, inV vs2 b → ¬ (v.ownBlock = some b ∨ inV vs b))
    (hl : (ls.length + m) * 24 ≤ 140737488355328)
    (h : ∀ v' w', RowsZ w' B v' (vs ++ vs2) (ls ++ ls2) → U.grownBy w' v.ownBlock → (v'.ownBlock = v.ownBlock ∨ v'.ownBlock = some U.heap.size) → K (a.put o.dst v') w') : o.wp Try.prog a U K Q := by
  obtain ⟨i1, hi1, hy0, hy1, hy2⟩ := info_parts Try.infoRow
  cases xo with
  | none =>
    have h0 : vs2 = [] := by
      cases vs2 with
      | nil => rfl
      | cons y vs2 =>
        obtain ⟨ad, e, _⟩ := hnews 0 y rfl
        cases e
    subst h0
    have h1 : ls2 = [] := List.length_eq_zero_iff.1 (by rw [← len2]; rfl)
    subst h1
    subst hm
    obtain rfl := hxn rfl
    have hr := run_append_owned_none (P := Try.prog) (w := U) B 25 o.type 39 i1 1 Try.underlying25 hi1 v ls.length vs hR.outer
    unfold Oper.wp execOp
    simp only [ho, resolve, invoke, builtin, Sem.run_bind, Sem.run_pure, Result.andThen_ok, List.map_toArray, List.map_cons, List.map_nil, hs, hx]
    rw [List.length_nil, hr]
    refine h v U ?_ ⟨rfl, rfl, rfl, Nat.le_refl _, fun _ _ _ => rfl⟩ (.inl rfl)
    rw [List.append_nil, List.append_nil]
    exact hR
  | some ad =>
    obtain ⟨v', w', hr, h2, h3, _, h5⟩ := run_append_own_at (P := Try.prog) U B 25 o.type 39 i1 (.slice none 0 0) 1 24 Try.underlying25 hi1 hy0 hy1 hy2 rfl (by decide) v ls.length vs hR.outer ad m c vs2 (by rw [len2, hm]; omega) (fun j u hj => by
      obtain ⟨ad', e, hc⟩ := hnews j u hj
      cases e
      exact hc) hone (by unfold maxLen; omega) hl hB
    unfold Oper.wp execOp
    simp only [ho, resolve, invoke, builtin, Sem.run_bind, Sem.run_pure, Result.andThen_ok, List.map_toArray, List.map_cons, List.map_nil, hs, hx, hr]
    refine h v' w' (hR.more len2 row2 apart2 hdis (by rw [hm]; exact h2) h3 h5) h3 h5

end Go.Proofs.Ytjlfdkeklilafab

/-
  Rotations told by vertices, pure: the half-edge between two vertices; what From finds first.
-/
namespace Go.Proofs.Ytjlfdkeklilafab
namespace Ro

/-- The half-edge below k from u to v, or none. -/
def half (es : List (Int × Int)) (u : Nat) (v : Int) : Nat → Option Nat
  | 0 => none
  | k + 1 => match half es u v k with
    | some h => some h
    | none => if Cs.fr es k = u ∧ (Cs.to es k : Int) = v then some k else none

theorem half_some {es : List (Int × Int)} {u : Nat} {v : Int} : ∀ {k h : Nat}, half es u v k = some h → h < k ∧ Cs.fr es h = u ∧ (Cs.to es h : Int) = v
  | k + 1, h, hh => by
    unfold half at hh
    split at hh
    · rename_i h' e
      cases hh
      have := half_some e
      exact ⟨by omega, this.2⟩
    · split at hh
      · rename_i hc
        cases hh
        exact ⟨by omega, hc⟩
      · cases hh

theorem half_none {es : List (Int × Int)} {u : Nat} {v : Int} : ∀ {k : Nat}, half es u v k = none → ∀ h, h < k → ¬ (Cs.fr es h = u ∧ (Cs.to es h : Int) = v)
  | 0, _, h, hk => by omega
  | k + 1, hh, h, hk => by
    unfold half at hh
    split at hh
    · cases hh
    · rename_i e
      split at hh
      · cases hh
      · rename_i hc
        by_cases e2 : h = k
        · subst e2; exact hc
        · exact half_none e h (by omega)

/-- Two half-edges of a valid graph with the same ends are one. -/
theorem half_one {n : Nat} {es : List (Int × Int)} (hv : Si.Val n es) {i j : Nat} (hi : i < 2 * es.length) (hj : j < 2 * es.length) (h1 : Cs.fr es i = Cs.fr es j) (h2 : Cs.to es i = Cs.to es j) : i = j := by
  obtain ⟨e, he, hoe, hpe⟩ := half_edge hv hi
  obtain ⟨f, hf, hof, hpf⟩ := half_edge hv hj
  have hinj : ∀ {a b : Nat} {p q : Int × Int}, es[a]? = some p → es[b]? = some q → p = q → a = b := fun {a b p q} ha hb hpq => by
    subst hpq
    exact hv.place ha hb
  unfold Si.ok at hoe hof
  obtain ⟨e1, e2⟩ := e
  obtain ⟨f1, f2⟩ := f
  dsimp only at hpe hpf hoe hof
  rcases hpe with ⟨m1, a1, a2⟩ | ⟨m1, a1, a2⟩ <;> rcases hpf with ⟨m2, b1, b2⟩ | ⟨m2, b1, b2⟩
  · have := hinj he hf (by rw [show e1 = f1 by omega, show e2 = f2 by omega])
    omega
  · omega
  · omega
  · have := hinj he hf (by rw [show e1 = f1 by omega, show e2 = f2 by omega])
    omega

/-- The half-edge from v to x, or -1. -/
def hl (es : List (Int × Int)) (v : Nat) (x : Int) : Int := match half es v x (2 * es.length) with
  | some h => (h : Int)
  | none => -1

/-- The lists of half-edges that are told by vertices, from vertex k on. -/
def hls (es : List (Int × Int)) : Nat → List (List Int) → List (List Int)
  | _, [] => []
  | k, l :: ls => l.map (hl es k) :: hls es (k + 1) ls

theorem hls_len (es : List (Int × Int)) : ∀ (k : Nat) (ls : List (List Int)), (hls es k ls).length = ls.length
  | _, [] => rfl
  | k, l :: ls => by simp [hls, hls_len es (k + 1) ls]

theorem hls_at {es : List (Int × Int)} : ∀ {k : Nat} {ls : List (List Int)} {v : Nat} {l : List Int}, ls[v]? = some l → (hls es k ls)[v]? = some (l.map (hl es (k + v)))
  | k, a :: ls, 0, l, h => by
    simp at h
    subst h
    simp [hls]
  | k, a :: ls, v + 1, l, h => by
    have := hls_at (es := es) (k := k + 1) (ls := ls) (v := v) (l := l) (by simpa using h)
    rw [show k + 1 + v = k + (v + 1) by omega] at this
    simpa [hls] using this

theorem hl_lv {es : List (Int × Int)} {v : Nat} {x : Int} {h : Nat} (hh : half es v x (2 * es.length) = some h) : hl es v x = (h : Int) ∧ lv es (h : Int) v = true ∧ h < 2 * es.length := by
  obtain ⟨h1, h2, h3⟩ := half_some hh
  refine ⟨by unfold hl; rw [hh], lv_of h1 h2, h1⟩
theorem hl_no {es : List (Int × Int)} {v : Nat} {x : Int} (hh : half es v x (2 * es.length) = none) : hl es v x = -1 ∧ lv es (-1) v = false := by
  refine ⟨by unfold hl; rw [hh], by simp [lv]⟩

/-- The half-edge to x, if it leaves v and leads to x. -/
theorem hl_of {n : Nat} {es : List (Int × Int)} (hv : Si.Val n es) {v h : Nat} {x : Int} (hh : h < 2 * es.length) (h1 : Cs.fr es h = v) (h2 : (Cs.to es h : Int) = x) : half es v x (2 * es.length) = some h := by
  cases e : half es v x (2 * es.length) with
  | none => exact absurd ⟨h1, h2⟩ (half_none e h hh)
  | some k =>
    obtain ⟨k1, k2, k3⟩ := half_some e
    rw [half_one hv k1 hh (by omega) (by omega)]

theorem hl_inj {es : List (Int × Int)} {v : Nat} {x y : Int} {h : Nat} (hh : half es v x (2 * es.length) = some h) (e : hl es v y = (h : Int)) : x = y := by
  cases ey : half es v y (2 * es.length) with
  | none => rw [(hl_no ey).1] at e; omega
  | some k =>
    rw [(hl_lv ey).1] at e
    have e2 : k = h := by omega
    subst e2
    have h1 := (half_some hh).2.2
    have h2 := (half_some ey).2.2
    omega

theorem hl_mem {es : List (Int × Int)} {v : Nat} {x : Int} {h : Nat} {pre : List Int} (hh : half es v x (2 * es.length) = some h) : (h : Int) ∈ pre.map (hl es v) ↔ x ∈ pre := by
  constructor
  · intro hm
    obtain ⟨y, hy, e⟩ := List.mem_map.1 hm
    rw [hl_inj hh e]
    exact hy
  · intro hm
    rw [← (hl_lv hh).1]
    exact List.mem_map.2 ⟨x, hm, rfl⟩

end Ro
end Go.Proofs.Ytjlfdkeklilafab

/-
  What From answers.
-/
namespace Go.Proofs.Ytjlfdkeklilafab
open Go.RowKit Go.Sort

/-- What From answers: hs the half-edges that are told. -/
def FromQ (v : Nat) (c : Int) (hs : List (List Int)) (w : World) (e : Ending) (w' : World) : Prop :=
  Below w.heap.size w w' ∧ ((c ≠ 0 ∧ e = .returned (.tuple #[.slice none 0 0, .int .i64 (v : Int), .int .i64 c])) ∨ (c = 0 ∧ ∃ r rs, e = .returned (.tuple #[r, .int .i64 0, .int .i64 0]) ∧ RowsZ w' w.heap.size r rs hs))
def FromP (n : Int) (es : List (Int × Int)) (ls : List (List Int)) (w : World) (e : Ending) (w' : World) : Prop :=
  FromQ (Ro.check n es (Ro.hls es 0 ls)).1 (Ro.check n es (Ro.hls es 0 ls)).2 (Ro.hls es 0 ls) w e w'

theorem FromP.bad {n : Int} {es : List (Int × Int)} {ls : List (List Int)} {w w' : World} {v : Nat} {c : Int} (hb : Below w.heap.size w w') (h : Ro.check n es (Ro.hls es 0 ls) = (v, c)) (hc : c ≠ 0) : FromP n es ls w (.returned (.tuple #[.slice none 0 0, .int .i64 (v : Int), .int .i64 c])) w' := by
  refine ⟨hb, .inl ?_⟩
  rw [h]
  exact ⟨hc, rfl⟩

end Go.Proofs.Ytjlfdkeklilafab

/-
  Lists of lists appended to a list of lists, whatever the second one's type is called; what Next, Around, From answer, in one form.
-/
namespace Go.Proofs.Ytjlfdkeklilafab
open Go.RowKit

theorem append_alike {P : Program} {t t' e e' ty : TypeId} (ht : P.underlying t = some (.slice e)) (ht' : P.underlying t' = some (.slice e')) (args : Array Value) (w : World) :
    (Builtin.append_ #[t, t'] ty args).run P w = (Builtin.append_ #[t, t] ty args).run P w := by
  have h1 : (#[t, t'] : Array TypeId)[0]? = some t := rfl
  have h2 : (#[t, t] : Array TypeId)[0]? = some t := rfl
  have h3 : (#[t, t'] : Array TypeId)[1]? = some t' := rfl
  have h4 : (#[t, t] : Array TypeId)[1]? = some t := rfl
  unfold Builtin.append_
  rw [h1, h2, h3, h4]
  cases h5 : args[0]? with
  | none => rfl
  | some s =>
    cases h6 : args[1]? with
    | none => rfl
    | some x =>
      simp only [Sem.run_bind, run_underlying ht, Result.andThen_ok]
      cases s <;> simp [Sem.run_bind, run_underlying ht, run_underlying ht', Result.andThen_ok]

/-- 'append(v, rows...)'. -/
theorem wpList_extendRows {ops : Array Oper} {rest : List Oper} {o : Oper} {a : Act} {Q : Exit → Act → World → Prop} (hgd : o.guard = none) (s x : Operand) (T' : TypeId) (hT' : Try.prog.underlying T' = some (.slice 39))
    (ho : o.op = .call { callee := .builtin .append, args := #[s, x], argTypes := #[25, T'] }) (U : World) (B : Nat) (v : Value) (vs : List Value) (L : List (List Int)) (hR : RowsZ U B v vs L) (hB : B ≤ U.heap.size)
    (B2 : Nat) (xv : Value) (vs2 : List Value) (L2 : List (List Int)) (h2 : RowsZ U B2 xv vs2 L2) (hB2 : B ≤ B2) (hdis : ∀ b, inV vs2 b → ¬ (v.ownBlock = some b ∨ inV vs b)) (hl : (L.length + L2.length) * 24 ≤ 140737488355328) (hs : a.eval s = v) (hx : a.eval x = xv)
    (h : ∀ v' w', RowsZ w' B v' (vs ++ vs2) (L ++ L2) → U.grownBy w' v.ownBlock → (v'.ownBlock = v.ownBlock ∨ v'.ownBlock = some U.heap.size) → wpList Try.prog ops Q rest (a.put o.dst v') w') :
    wpList Try.prog ops Q (o :: rest) a U := by
  refine wpList_plain hgd fun K hK => ?_
  have hf : ∃ p4 q4, xv = .slice p4 L2.length q4 ∧ (p4 = none → q4 = 0) := by
    rcases h2.outer.2 with ⟨rfl, h0⟩ | ⟨g, cap, cur, rfl, _⟩
    · exact ⟨none, 0, by rw [h0], fun _ => rfl⟩
    · exact ⟨_, cap, rfl, fun e => by cases e⟩
  obtain ⟨p4, q4, rfl, hn⟩ := hf
  have key := wp_rows_more (U := U) (o := { o with op := .call { callee := .builtin .append, args := #[s, x], argTypes := #[25, 25] } }) (a := a) (K := K) (Q := Q) s x rfl B v vs vs2 L L2 hR hB hs p4 L2.length q4 rfl hx hn h2.len (fun j u hj => ?_) (fun u hu => ?_) (fun u x l hx hl => (h2.row u x l hx hl).lower hB2) h2.apart hdis hl (fun v' w' r1 r2 r3 => hK _ _ (h v' w' r1 r2 r3))
  · unfold Oper.wp execOp at key ⊢
    simp only [ho, resolve, invoke, builtin, Sem.run_bind, Sem.run_pure, Result.andThen_ok, List.map_toArray, List.map_cons, List.map_nil, hs, hx] at key ⊢
    rw [append_alike Try.underlying25 hT']
    exact key
  · rcases h2.outer.2 with ⟨e, h0⟩ | ⟨g, cap, cur, e, _⟩
    · have := (List.getElem?_eq_some_iff.1 hj).1
      rw [h2.len] at this
      omega
    · cases e
      exact ⟨_, rfl, World.ownsRow.cells h2.outer (g := g) rfl j u hj⟩
  · obtain ⟨j, hj⟩ := List.getElem?_of_mem hu
    obtain ⟨l, hl'⟩ := h2.at hj
    obtain ⟨a', c', rfl, _⟩ := (h2.row j u l hj hl').form
    rfl

/-- A list of one's own, by its slice. -/
theorem NextP.form {n : Int} {es : List (Int × Int)} {ls : List (List Int)} {w w' : World} {e : Ending} (h : NextP n es ls w e w') : ∃ o k q L c, e = .returned (.tuple #[.slice o k q, .int .i64 c]) ∧ OwnZ w' w.heap.size (.slice o k q) L ∧ L.length ≤ 8388608 ∧ Below w.heap.size w w' := by
  obtain ⟨hb, ⟨_, rfl⟩ | ⟨h0, g, rfl, hg, hi⟩⟩ := h
  · exact ⟨none, 0, 0, [], _, rfl, OwnZ.nil _ _, by simp, hb⟩
  · have hv := (Ro.check_iff.1 h0).val
    have hfew := (Si.valid_iff.1 hv).few
    have hlen := Ro.nextL_len es ls
    exact ⟨some ⟨g, 0, none⟩, 2 * es.length, 2 * es.length, Ro.nextL es ls, 0, rfl, hi.own hg hlen (by omega), by omega, hb⟩
/-- What Around answers. -/
noncomputable def Ro.arounds (n : Int) (es : List (Int × Int)) (ls : List (List Int)) : List (List Int) := if (Ro.check n es ls).2 = 0 then Ro.around es ls else []
theorem AroundP.form {n : Int} {es : List (Int × Int)} {ls : List (List Int)} {w w' : World} {e : Ending} (h : AroundP n es ls w e w') : ∃ o q vs, e = .returned (.tuple #[.slice o (Ro.arounds n es ls).length q, .int .i64 (Ro.check n es ls).2]) ∧ RowsZ w' w.heap.size (.slice o (Ro.arounds n es ls).length q) vs (Ro.arounds n es ls) ∧ Below w.heap.size w w' := by
  unfold Ro.arounds
  obtain ⟨hb, ⟨h0, rfl⟩ | ⟨h0, v, vs, rfl, hr⟩⟩ := h
  · rw [if_neg h0]
    exact ⟨none, 0, [], rfl, RowsZ.nil _ _, hb⟩
  · rw [if_pos h0, h0]
    obtain ⟨o, q, rfl⟩ := row_shape hr
    exact ⟨o, q, vs, rfl, hr, hb⟩
/-- What From answers. -/
noncomputable def Ro.froms (n : Int) (es : List (Int × Int)) (ls : List (List Int)) : List (List Int) := if (Ro.check n es (Ro.hls es 0 ls)).2 = 0 then Ro.hls es 0 ls else []
theorem FromP.form {n : Int} {es : List (Int × Int)} {ls : List (List Int)} {w w' : World} {e : Ending} (h : FromP n es ls w e w') : ∃ o q vs, ∃ a b : Int, e = .returned (.tuple #[.slice o (Ro.froms n es ls).length q, .int .i64 a, .int .i64 b]) ∧ RowsZ w' w.heap.size (.slice o (Ro.froms n es ls).length q) vs (Ro.froms n es ls) ∧ Below w.heap.size w w' := by
  unfold Ro.froms
  obtain ⟨hb, ⟨h0, rfl⟩ | ⟨h0, v, vs, rfl, hr⟩⟩ := h
  · rw [if_neg h0]
    exact ⟨none, 0, [], _, _, rfl, RowsZ.nil _ _, hb⟩
  · rw [if_pos h0]
    obtain ⟨o, q, rfl⟩ := row_shape hr
    exact ⟨o, q, vs, _, _, rfl, hr, hb⟩

end Go.Proofs.Ytjlfdkeklilafab
