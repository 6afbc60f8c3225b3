/-
  A list of lists gets many more.
-/
import Derived.Test.YtmgoahbloppdmaaGreatMg08
import Derived.Maps.AppendAt
import Derived.Laws.AppendOwnNone
namespace Go.Proofs.YtmgoahbloppdmaaGreat
open Go.RowKit

section
variable {B : Nat} {v v' : Value} {vs vs2 : List Value} {ls ls2 : List (List Int)}

/-- The lists vs2 are put behind vs. -/
theorem RowsZ.more {W w1 : World} (h : RowsZ W B v vs ls) (len2 : vs2.length = ls2.length) (row2 : ∀ (u : Nat) (x : Value) (l : List Int), vs2[u]? = some x → ls2[u]? = some l → OwnZ W B x l)
    (apart2 : ∀ (u u' : Nat) (x x' : Value) (b : Nat), u ≠ u' → vs2[u]? = some x → vs2[u']? = some x' → x.ownBlock = some b → x'.ownBlock ≠ some b) (hx : ∀ b, inV vs2 b → ¬ (v.ownBlock = some b ∨ inV vs b))
    (hown : w1.ownsRow B 25 1 v' (ls.length + ls2.length) (vs ++ vs2)) (hgrow : W.grownBy w1 v.ownBlock) (hat : v'.ownBlock = v.ownBlock ∨ v'.ownBlock = some W.heap.size) : RowsZ w1 B v' (vs ++ vs2) (ls ++ ls2) := by
  have hsame : ∀ g, v.ownBlock ≠ some g → g < W.heap.size → w1.heap[g]? = W.heap[g]? := fun g hne hg => hgrow.block g hg (fun e => hne e.symm)
  have hpart : ∀ u y, (vs ++ vs2)[u]? = some y → (u < vs.length ∧ vs[u]? = some y) ∨ (vs.length ≤ u ∧ vs2[u - vs.length]? = some y) := fun u y hy => by
    by_cases hu : u < vs.length
    · rw [List.getElem?_append_left hu] at hy
      exact .inl ⟨hu, hy⟩
    · rw [List.getElem?_append_right (by omega)] at hy
      exact .inr ⟨by omega, hy⟩
  have hat2 : ∀ {u : Nat} {x : Value}, vs2[u]? = some x → ∃ l, ls2[u]? = some l := fun {u x} hx => ⟨_, List.getElem?_eq_getElem (by rw [← len2]; exact (List.getElem?_eq_some_iff.1 hx).1)⟩
  refine ⟨by simp [h.len, len2], by rw [List.length_append]; exact hown, fun u y k hy hk => ?_, fun u u' y y' b hne hy hy' hb => ?_, fun u y b hy hb => ?_⟩
  · rcases hpart u y hy with ⟨hu, h1⟩ | ⟨hu, h1⟩
    · rw [List.getElem?_append_left (by rw [← h.len]; exact hu)] at hk
      exact (h.row u y k h1 hk).same fun g hg hl => hsame g (h.far u y g h1 hg) hl
    · rw [List.getElem?_append_right (by rw [← h.len]; exact hu), ← h.len] at hk
      exact (row2 _ y k h1 hk).same fun g hg hl => hsame g (fun e => hx g ⟨_, y, h1, hg⟩ (.inl e)) hl
  · rcases hpart u y hy with ⟨hu, h1⟩ | ⟨hu, h1⟩ <;> rcases hpart u' y' hy' with ⟨hu', h2⟩ | ⟨hu', h2⟩
    · exact h.apart u u' y y' b hne h1 h2 hb
    · intro hc
      exact hx b ⟨_, y', h2, hc⟩ (.inr ⟨u, y, h1, hb⟩)
    · intro hc
      exact hx b ⟨_, y, h1, hb⟩ (.inr ⟨u', y', h2, hc⟩)
    · exact apart2 _ _ y y' b (by omega) h1 h2 hb
  · intro hc
    rcases hat with e | e
    · rw [e] at hc
      rcases hpart u y hy with ⟨hu, h1⟩ | ⟨hu, h1⟩
      · exact h.far u y b h1 hb hc
      · exact hx b ⟨_, y, h1, hb⟩ (.inl hc)
    · have hbs := Option.some.inj (e.symm.trans hc)
      rcases hpart u y hy with ⟨hu, h1⟩ | ⟨hu, h1⟩
      · obtain ⟨k, hk⟩ := h.at h1
        have := (World.ownsRow.lt (h.row u y k h1 hk) b hb).2
        omega
      · obtain ⟨k, hk⟩ := hat2 h1
        have := (World.ownsRow.lt (row2 _ y k h1 hk) b hb).2
        omega

/-- Blocks of lists lie within the heap, above the base. -/
theorem RowsZ.within {W : World} (h : RowsZ W B v vs ls) {b : Nat} (hb : v.ownBlock = some b ∨ inV vs b) : B ≤ b ∧ b < W.heap.size := by
  rcases hb with hb | ⟨u, x, hx, hb⟩
  · exact World.ownsRow.lt h.outer b hb
  · obtain ⟨l, hl⟩ := h.at hx
    exact World.ownsRow.lt (h.row u x l hx hl) b hb
end

/-- 'append(v, xs...)' of lists of lists, in a region or not. -/
theorem wp_rows_more {U : World} {o : Oper} {a : Act} {K : Act → World → Prop} {Q : Exit → Act → World → Prop} (s x : Operand) (ho : o.op = .call { callee := .builtin .append, args := #[s, x], argTypes := #[29, 29] })
    (B : Nat) (v : Value) (vs vs2 : List Value) (ls ls2 : List (List Int)) (hR : RowsZ U B v vs ls) (hB : B ≤ U.heap.size) (hs : a.eval s = v) (xo : Option Addr) (m c : Nat) (hm : ls2.length = m) (hx : a.eval x = .slice xo m c) (hxn : xo = none → c = 0)
    (len2 : vs2.length = ls2.length) (hnews : ∀ j u, vs2[j]? = some u → ∃ ad, xo = some ad ∧ U.cell? (ad.add j) = some u) (hone : ∀ u ∈ vs2, u.oneCell' = true)
    (row2 : ∀ (u : Nat) (x : Value) (l : List Int), vs2[u]? = some x → ls2[u]? = some l → OwnZ U B x l)
    (apart2 : ∀ (u u' : Nat) (x x' : Value) (b : Nat), u ≠ u' → vs2[u]? = some x → vs2[u']? = some x' → x.ownBlock = some b → x'.ownBlock ≠ some b) (hdis : ∀ b, inV vs2 b → ¬ (v.ownBlock = some b ∨ inV vs b))
    (hl : (ls.length + m) * 24 ≤ 140737488355328)
    (h : ∀ v' w', RowsZ w' B v' (vs ++ vs2) (ls ++ ls2) → U.grownBy w' v.ownBlock → (v'.ownBlock = v.ownBlock ∨ v'.ownBlock = some U.heap.size) → K (a.put o.dst v') w') : o.wp Tryz.prog a U K Q := by
  obtain ⟨i1, hi1, hy0, hy1, hy2⟩ := info_parts Tryz.infoRow
  cases xo with
  | none =>
    have h0 : vs2 = [] := by
      cases vs2 with
      | nil => rfl
      | cons y vs2 =>
        obtain ⟨ad, e, _⟩ := hnews 0 y rfl
        cases e
    subst h0
    have h1 : ls2 = [] := List.length_eq_zero_iff.1 (by rw [← len2]; rfl)
    subst h1
    subst hm
    obtain rfl := hxn rfl
    have hr := run_append_owned_none (P := Tryz.prog) (w := U) B 29 o.type 25 i1 1 Tryz.underlying29 hi1 v ls.length vs hR.outer
    unfold Oper.wp execOp
    simp only [ho, resolve, invoke, builtin, Sem.run_bind, Sem.run_pure, Result.andThen_ok, List.map_toArray, List.map_cons, List.map_nil, hs, hx]
    rw [List.length_nil, hr]
    refine h v U ?_ ⟨rfl, rfl, rfl, Nat.le_refl _, fun _ _ _ => rfl⟩ (.inl rfl)
    rw [List.append_nil, List.append_nil]
    exact hR
  | some ad =>
    obtain ⟨v', w', hr, h2, h3, _, h5⟩ := run_append_own_at (P := Tryz.prog) U B 29 o.type 25 i1 (.slice none 0 0) 1 24 Tryz.underlying29 hi1 hy0 hy1 hy2 rfl (by decide) v ls.length vs hR.outer ad m c vs2 (by rw [len2, hm]; omega) (fun j u hj => by
      obtain ⟨ad', e, hc⟩ := hnews j u hj
      cases e
      exact hc) hone (by unfold maxLen; omega) hl hB
    unfold Oper.wp execOp
    simp only [ho, resolve, invoke, builtin, Sem.run_bind, Sem.run_pure, Result.andThen_ok, List.map_toArray, List.map_cons, List.map_nil, hs, hx, hr]
    refine h v' w' (hR.more len2 row2 apart2 hdis (by rw [hm]; exact h2) h3 h5) h3 h5

end Go.Proofs.YtmgoahbloppdmaaGreat
