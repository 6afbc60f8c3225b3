/-
  A list of lists gets many more; the sets' lists; what Of answers, of any graph.
-/
import Derived.Test.YtoaaihbeehpgfabCoKeep
import Derived.Test.YtoaaihbeehpgfabCoGrp
import Derived.Test.YtoaaihbeehpgfabCoROf
namespace Go.Proofs.Ytoaaihbeehpgfab
open Go.RowKit

section
variable {B : Nat} {v v' : Value} {vs vs2 : List Value} {ls ls2 : List (List Int)}

/-- The lists vs2 are put behind vs. -/
theorem RowsZ.more {W w1 : World} (h : RowsZ W B v vs ls) (len2 : vs2.length = ls2.length) (row2 : ∀ (u : Nat) (x : Value) (l : List Int), vs2[u]? = some x → ls2[u]? = some l → OwnZ W B x l)
    (apart2 : ∀ (u u' : Nat) (x x' : Value) (b : Nat), u ≠ u' → vs2[u]? = some x → vs2[u']? = some x' → x.ownBlock = some b → x'.ownBlock ≠ some b) (hx : ∀ b, inV vs2 b → ¬ (v.ownBlock = some b ∨ inV vs b))
    (hown : w1.ownsRow B 36 1 v' (ls.length + ls2.length) (vs ++ vs2)) (hgrow : W.grownBy w1 v.ownBlock) (hat : v'.ownBlock = v.ownBlock ∨ v'.ownBlock = some W.heap.size) : RowsZ w1 B v' (vs ++ vs2) (ls ++ ls2) := by
  have hsame : ∀ g, v.ownBlock ≠ some g → g < W.heap.size → w1.heap[g]? = W.heap[g]? := fun g hne hg => hgrow.block g hg (fun e => hne e.symm)
  have hpart : ∀ u y, (vs ++ vs2)[u]? = some y → (u < vs.length ∧ vs[u]? = some y) ∨ (vs.length ≤ u ∧ vs2[u - vs.length]? = some y) := fun u y hy => by
    by_cases hu : u < vs.length
    · rw [List.getElem?_append_left hu] at hy
      exact .inl ⟨hu, hy⟩
    · rw [List.getElem?_append_right (by omega)] at hy
      exact .inr ⟨by omega, hy⟩
  have hat2 : ∀ {u : Nat} {x : Value}, vs2[u]? = some x → ∃ l, ls2[u]? = some l := fun {u x} hx => ⟨_, List.getElem?_eq_getElem (by rw [← len2]; exact (List.getElem?_eq_some_iff.1 hx).1)⟩
  refine ⟨by simp [h.len, len2], by rw [List.length_append]; exact hown, fun u y k hy hk => ?_, fun u u' y y' b hne hy hy' hb => ?_, fun u y b hy hb => ?_⟩
  · rcases hpart u y hy with ⟨hu, h1⟩ | ⟨hu, h1⟩
    · rw [List.getElem?_append_left (by rw [← h.len]; exact hu)] at hk
      exact (h.row u y k h1 hk).same fun g hg hl => hsame g (h.far u y g h1 hg) hl
    · rw [List.getElem?_append_right (by rw [← h.len]; exact hu), ← h.len] at hk
      exact (row2 _ y k h1 hk).same fun g hg hl => hsame g (fun e => hx g ⟨_, y, h1, hg⟩ (.inl e)) hl
  · rcases hpart u y hy with ⟨hu, h1⟩ | ⟨hu, h1⟩ <;> rcases hpart u' y' hy' with ⟨hu', h2⟩ | ⟨hu', h2⟩
    · exact h.apart u u' y y' b hne h1 h2 hb
    · intro hc
      exact hx b ⟨_, y', h2, hc⟩ (.inr ⟨u, y, h1, hb⟩)
    · intro hc
      exact hx b ⟨_, y, h1, hb⟩ (.inr ⟨u', y', h2, hc⟩)
    · exact apart2 _ _ y y' b (by omega) h1 h2 hb
  · intro hc
    rcases hat with e | e
    · rw [e] at hc
      rcases hpart u y hy with ⟨hu, h1⟩ | ⟨hu, h1⟩
      · exact h.far u y b h1 hb hc
      · exact hx b ⟨_, y, h1, hb⟩ (.inl hc)
    · have hbs := Option.some.inj (e.symm.trans hc)
      rcases hpart u y hy with ⟨hu, h1⟩ | ⟨hu, h1⟩
      · obtain ⟨k, hk⟩ := h.at h1
        have := (World.ownsRow.lt (h.row u y k h1 hk) b hb).2
        omega
      · obtain ⟨k, hk⟩ := hat2 h1
        have := (World.ownsRow.lt (row2 _ y k h1 hk) b hb).2
        omega

/-- Blocks of lists lie within the heap, above the base. -/
theorem RowsZ.within {W : World} (h : RowsZ W B v vs ls) {b : Nat} (hb : v.ownBlock = some b ∨ inV vs b) : B ≤ b ∧ b < W.heap.size := by
  rcases hb with hb | ⟨u, x, hx, hb⟩
  · exact World.ownsRow.lt h.outer b hb
  · obtain ⟨l, hl⟩ := h.at hx
    exact World.ownsRow.lt (h.row u x l hx hl) b hb
end

/-- Each set has a number. -/
theorem Co.gl_pos {n : Nat} {m : Nat → Nat} {l : List Int} (h : l ∈ Co.gl m n n) : 0 < l.length := by
  obtain ⟨i, hi, rfl⟩ := List.mem_map.1 h
  have hf := List.mem_filter.1 hi
  have hin := List.mem_range.1 hf.1
  unfold Co.mem
  rw [List.length_map]
  refine List.length_pos_of_mem (a := i) (List.mem_filter.2 ⟨List.mem_range.2 hin, ?_⟩)
  exact hf.2

/-- What Of answers as a list, of any graph. -/
noncomputable def Co.ofL (n : Int) (es : List (Int × Int)) : List Int := if Si.valid n es then Co.ints n.toNat (Co.num (Co.ofG n.toNat es)) else []

theorem Co.ofL_length {n : Int} {es : List (Int × Int)} : (Co.ofL n es).length ≤ 1048576 := by
  unfold Co.ofL
  split
  · rename_i h
    have := (Si.valid_iff.1 h).hi
    rw [Co.ints_length]
    omega
  · simp

theorem of_list {f : FuncId} {args : Array Value} {n : Int} {es : List (Int × Int)} {W : World} (h : Calls Try.prog f args W (OfPost n es W)) :
    Calls Try.prog f args W fun e w' => ∃ ao c y z, e = .returned (.tuple #[.slice ao (Co.ofL n es).length c, .int .i64 y, .int .i64 z]) ∧ OwnZ w' W.heap.size (.slice ao (Co.ofL n es).length c) (Co.ofL n es) ∧ Below W.heap.size W w' := h.mono (by
  rintro e w' ⟨⟨m, v, rfl, h2, h3, h4⟩ | ⟨h1, h2⟩, hb⟩
  · have e1 : Co.ofL (m : Int) es = Co.ints m (Co.num (Co.ofG m es)) := by
      unfold Co.ofL
      rw [if_pos (Si.valid_iff.2 h2), Int.toNat_natCast]
    rw [e1]
    obtain ⟨ao, c, rfl, -, -⟩ := h4.form
    exact ⟨ao, c, _, _, h3, h4, hb⟩
  · have e1 : Co.ofL n es = [] := by
      unfold Co.ofL
      rw [if_neg (by rw [h1]; simp)]
    rw [e1]
    exact ⟨none, 0, _, _, h2, OwnZ.nil _ _, hb⟩)

end Go.Proofs.Ytoaaihbeehpgfab
