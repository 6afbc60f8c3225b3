/-
  Lists put behind a list of lists, in a region.
-/
import Derived.Test.YtmgoahbloppdmaaGreatRowsM
import Derived.Test.YtmgoahbloppdmaaGreatMg09
namespace Go.Proofs.YtmgoahbloppdmaaGreat
open Go.RowKit

/-- Four lists more, each in memory of its own, behind the lists of v. -/
structure Four (X : World) (B : Nat) (v : Value) (vs : List Value) (v1 v2 v3 v4 : Value) (l1 l2 l3 l4 : List Int) : Prop where
  o1 : OwnZ X B v1 l1
  o2 : OwnZ X B v2 l2
  o3 : OwnZ X B v3 l3
  o4 : OwnZ X B v4 l4
  n12 : ∀ b, v1.ownBlock = some b → v2.ownBlock ≠ some b
  n13 : ∀ b, v1.ownBlock = some b → v3.ownBlock ≠ some b
  n14 : ∀ b, v1.ownBlock = some b → v4.ownBlock ≠ some b
  n23 : ∀ b, v2.ownBlock = some b → v3.ownBlock ≠ some b
  n24 : ∀ b, v2.ownBlock = some b → v4.ownBlock ≠ some b
  n34 : ∀ b, v3.ownBlock = some b → v4.ownBlock ≠ some b
  far : ∀ y ∈ [v1, v2, v3, v4], ∀ b, y.ownBlock = some b → ¬ (v.ownBlock = some b ∨ inV vs b)

section
variable {X : World} {B : Nat} {v : Value} {vs : List Value} {v1 v2 v3 v4 : Value} {l1 l2 l3 l4 : List Int}
theorem Four.row (h : Four X B v vs v1 v2 v3 v4 l1 l2 l3 l4) : ∀ (u : Nat) (x : Value) (l : List Int), [v1, v2, v3, v4][u]? = some x → [l1, l2, l3, l4][u]? = some l → OwnZ X B x l := fun u x l hx hl => by
  match u, hx, hl with
  | 0, hx, hl => cases hx; cases hl; exact h.o1
  | 1, hx, hl => cases hx; cases hl; exact h.o2
  | 2, hx, hl => cases hx; cases hl; exact h.o3
  | 3, hx, hl => cases hx; cases hl; exact h.o4
theorem Four.apart (h : Four X B v vs v1 v2 v3 v4 l1 l2 l3 l4) : ∀ (u u' : Nat) (x x' : Value) (b : Nat), u ≠ u' → [v1, v2, v3, v4][u]? = some x → [v1, v2, v3, v4][u']? = some x' → x.ownBlock = some b → x'.ownBlock ≠ some b := fun u u' x x' b hne hx hx' hb hb' => by
  match u, u', hx, hx' with
  | 0, 0, _, _ => exact hne rfl
  | 0, 1, hx, hx' => cases hx; cases hx'; exact h.n12 b hb hb'
  | 0, 2, hx, hx' => cases hx; cases hx'; exact h.n13 b hb hb'
  | 0, 3, hx, hx' => cases hx; cases hx'; exact h.n14 b hb hb'
  | 1, 0, hx, hx' => cases hx; cases hx'; exact h.n12 b hb' hb
  | 1, 1, _, _ => exact hne rfl
  | 1, 2, hx, hx' => cases hx; cases hx'; exact h.n23 b hb hb'
  | 1, 3, hx, hx' => cases hx; cases hx'; exact h.n24 b hb hb'
  | 2, 0, hx, hx' => cases hx; cases hx'; exact h.n13 b hb' hb
  | 2, 1, hx, hx' => cases hx; cases hx'; exact h.n23 b hb' hb
  | 2, 2, _, _ => exact hne rfl
  | 2, 3, hx, hx' => cases hx; cases hx'; exact h.n34 b hb hb'
  | 3, 0, hx, hx' => cases hx; cases hx'; exact h.n14 b hb' hb
  | 3, 1, hx, hx' => cases hx; cases hx'; exact h.n24 b hb' hb
  | 3, 2, hx, hx' => cases hx; cases hx'; exact h.n34 b hb' hb
  | 3, 3, _, _ => exact hne rfl
theorem Four.later {X' : World} (h : Four X B v vs v1 v2 v3 v4 l1 l2 l3 l4) (hb : Below X.heap.size X X') : Four X' B v vs v1 v2 v3 v4 l1 l2 l3 l4 := ⟨h.o1.later hb, h.o2.later hb, h.o3.later hb, h.o4.later hb, h.n12, h.n13, h.n14, h.n23, h.n24, h.n34, h.far⟩

/-- 'append(v, v1, v2, v3, v4)': the four lie in block g. -/
theorem wp_push4 {o : Oper} {a : Act} {K : Act → World → Prop} {Q : Exit → Act → World → Prop} (s x : Operand) (ho : o.op = .call { callee := .builtin .append, args := #[s, x], argTypes := #[29, 29] })
    (U : World) (g : Nat) (L : List (List Int)) (hR : RowsZ U B v vs L) (hB : B ≤ U.heap.size) (hs : a.eval s = v) (hx : a.eval x = .slice (some ⟨g, 0, none⟩) 4 4) (hc : U.heap[g]? = some (.cells #[v1, v2, v3, v4] 25 (0, 0))) (h4 : Four U B v vs v1 v2 v3 v4 l1 l2 l3 l4) (hone : ∀ u ∈ [v1, v2, v3, v4], u.oneCell' = true)
    (hl : (L.length + 4) * 24 ≤ 140737488355328)
    (h : ∀ v' w', RowsZ w' B v' (vs ++ [v1, v2, v3, v4]) (L ++ [l1, l2, l3, l4]) → U.grownBy w' v.ownBlock → (v'.ownBlock = v.ownBlock ∨ v'.ownBlock = some U.heap.size) → K (a.put o.dst v') w') : o.wp Tryz.prog a U K Q := by
  refine wp_rows_more s x ho B v vs [v1, v2, v3, v4] L [l1, l2, l3, l4] hR hB hs (some ⟨g, 0, none⟩) 4 4 rfl hx (fun e => by cases e) rfl (fun j u hj => ?_) hone h4.row h4.apart (fun b hb' => ?_) hl h
  · obtain ⟨k0, k1, k2, k3, -⟩ := four_cells hc
    refine ⟨_, rfl, ?_⟩
    match j, hj with
    | 0, hj => cases hj; exact k0
    | 1, hj => cases hj; exact k1
    | 2, hj => cases hj; exact k2
    | 3, hj => cases hj; exact k3
  · obtain ⟨u, y, hy, hyb⟩ := hb'
    exact h4.far y (List.mem_of_getElem? hy) b hyb

/-- 'append(v, rows...)'. -/
theorem wp_pushR {U : World} {o : Oper} {a : Act} {K : Act → World → Prop} {Q : Exit → Act → World → Prop} (s x : Operand) (ho : o.op = .call { callee := .builtin .append, args := #[s, x], argTypes := #[29, 29] })
    (L : List (List Int)) (hR : RowsZ U B v vs L) (hB : B ≤ U.heap.size) (hs : a.eval s = v) (B2 : Nat) (p4 : Option Addr) (q4 : Nat) (vo : List Value) (ls : List (List Int)) (hx : a.eval x = .slice p4 ls.length q4) (hp4 : p4 = none → q4 = 0) (hRo : RowsZ U B2 (.slice p4 ls.length q4) vo ls) (hB2 : B ≤ B2) (hdis : ∀ b, inV vo b → ¬ (v.ownBlock = some b ∨ inV vs b))
    (hl : (L.length + ls.length) * 24 ≤ 140737488355328)
    (h : ∀ v' w', RowsZ w' B v' (vs ++ vo) (L ++ ls) → U.grownBy w' v.ownBlock → (v'.ownBlock = v.ownBlock ∨ v'.ownBlock = some U.heap.size) → K (a.put o.dst v') w') : o.wp Tryz.prog a U K Q := by
  refine wp_rows_more s x ho B v vs vo L ls hR hB hs p4 ls.length q4 rfl hx hp4 hRo.len (fun j u hj => ?_) (fun u hu => ?_) (fun u x l hx hl => (hRo.row u x l hx hl).lower hB2) hRo.apart hdis hl h
  · rcases hRo.outer.2 with ⟨e, h0⟩ | ⟨g, cap, cur, e, _⟩
    · have := (List.getElem?_eq_some_iff.1 hj).1
      rw [hRo.len] at this
      omega
    · cases e
      exact ⟨_, rfl, World.ownsRow.cells hRo.outer (g := g) rfl j u hj⟩
  · obtain ⟨j, hj⟩ := List.getElem?_of_mem hu
    obtain ⟨l, hl'⟩ := hRo.at hj
    obtain ⟨a', c', rfl, _⟩ := (hRo.row j u l hj hl').form
    rfl
end

end Go.Proofs.YtmgoahbloppdmaaGreat
