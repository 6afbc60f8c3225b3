/-
  An append that leaves the list it began with as it was; lists of lists under stores.
-/
import Derived.Test.YtponmjipbcmlhaaCoRows
import Derived.ArgAppend
import Derived.Deep.DeepAppendRoom
namespace Go.Proofs.Ytponmjipbcmlhaa
open Go.RowKit

theorem grown_any {w w' : World} (h : w.grownBy w' none) (r : Option Nat) : w.grownBy w' r := ⟨h.os, h.tape, h.output, h.size, fun k hk _ => h.block k hk (by simp)⟩

/-- The row that a longer one in its block began with. -/
theorem own_front {w : World} {B g p c : Nat} {xs : List Value} {z : Value} (h : w.ownsRow B 3 1 (.slice (some ⟨g, 0, none⟩) (p + 1) c) (p + 1) (xs ++ [z])) (hx : xs.length = p) : w.ownsRow B 3 1 (.slice (some ⟨g, 0, none⟩) p c) p xs := by
  rcases h.2 with ⟨h', _⟩ | ⟨g', cap, cur, e, hB, hh, hc, hm, hs, ht⟩
  · cases h'
  · cases e
    refine ⟨by omega, .inr ⟨g, c, cur, rfl, hB, hh, by omega, hm, hs, ?_⟩⟩
    have e1 : cur.toList.take (p * 1) = (cur.toList.take ((p + 1) * 1)).take (p * 1) := by rw [List.take_take]; congr 1; omega
    rw [e1, ht, List.take_append_of_le_length (by omega), List.take_of_length_le (by omega)]

/-- 'append(v, z)' of a list of one's own: the list it began with reads as before. -/
theorem wpList_append_keep {W : World} {ops : Array Oper} {rest : List Oper} {o : Oper} {a : Act} {Q : Exit → Act → World → Prop} (hgd : o.guard = none) (s x : Operand)
    (ho : o.op = .call { callee := .builtin .append, args := #[s, x], argTypes := #[26, 26] }) (B p : Nat) (ao : Option Addr) (c : Nat) (xs : List Value) (z : Int)
    (hs : a.eval s = .slice ao p c) (hown : W.ownsRow B 3 1 (.slice ao p c) p xs) (ad : Addr) (hx : a.eval x = .slice (some ad) 1 1) (hnews : ∀ j u, [Value.int .i64 z][j]? = some u → W.cell? (ad.add j) = some u) (hp : p ≤ 17592186044000) (hB : B ≤ W.heap.size)
    (h : ∀ g' c' w', w'.ownsRow B 3 1 (.slice (some ⟨g', 0, none⟩) (p + 1) c') (p + 1) (xs ++ [.int .i64 z]) → w'.ownsRow B 3 1 (.slice ao p c) p xs → W.grownBy w' (Value.slice ao p c).ownBlock → (((Value.slice ao p c).ownBlock = some g' ∧ c' = c) ∨ W.heap.size ≤ g') → g' < w'.heap.size → wpList Try.prog ops Q rest (a.put o.dst (.slice (some ⟨g', 0, none⟩) (p + 1) c')) w') :
    wpList Try.prog ops Q (o :: rest) a W := by
  obtain ⟨i0, hi, hz0, hz1, hz2⟩ := info_parts Try.infoNum
  have hxl : xs.length = p := by have := hown.1; omega
  by_cases hroom : p + 1 ≤ c
  · obtain ⟨g, hg⟩ : ∃ g, ao = some ⟨g, 0, none⟩ := by
      rcases hown.2 with ⟨h', _⟩ | ⟨g, cap, cur, e, _⟩
      · cases h'; omega
      · cases e; exact ⟨g, rfl⟩
    subst hg
    refine wpList_append_own_spare (w := W) hgd s x 26 ho B 3 i0 1 Try.underlying26 hi hz1 g p c xs hs hown ad 1 1 [.int .i64 z] hx rfl hnews (by simp [Value.oneCell']) hroom ?_
    intro w' h2 h3
    exact h g c w' h2 (own_front h2 hxl) h3 (.inl ⟨rfl, rfl⟩) (World.ownsRow.lt h2 g rfl).2
  · refine wpList_append_grows W hgd s x 26 ho 3 i0 (.int .i64 0) 1 8 Try.underlying26 hi hz0 hz1 hz2 rfl (by decide) ao p c xs hs (fun e => ?_) (by omega) (fun b hb j u hj => ?_) ad 1 1 [.int .i64 z] hx rfl hnews (by simp [Value.oneCell']) (by omega) (by unfold maxLen; omega) (by omega) ?_
    · rcases hown.2 with ⟨h', h0⟩ | ⟨g, cap, cur, e', _⟩
      · cases h'; exact ⟨h0, rfl⟩
      · rw [e] at e'; cases e'
    · rcases hown.2 with ⟨h', h0⟩ | ⟨g, cap, cur, e', _⟩
      · rw [hb] at h'; cases h'
      · rw [hb] at e'
        cases e'
        have := World.ownsRow.cells hown (g := g) (by rw [hb]; rfl) j u hj
        exact this
    · intro v' w' h2 h3
      obtain ⟨g', c', rfl⟩ := own_succ h2
      have hlt := World.ownsRow.lt h2 g' rfl
      have h4 : w'.ownsRow B 3 1 (.slice (some ⟨g', 0, none⟩) (p + 1) c') (p + 1) (xs ++ [.int .i64 z]) := by
        rcases h2.2 with h' | ⟨g, cap, cur, e1, hgB, hr⟩
        · exact ⟨h2.1, .inl h'⟩
        · exact ⟨h2.1, .inr ⟨g, cap, cur, e1, Nat.le_trans hB hgB, hr⟩⟩
      exact h g' c' w' h4 (hown.kept h3 (by cases (Value.slice ao p c).ownBlock <;> simp)) (grown_any h3 _) (.inr hlt.1) hlt.2

/-- The same, however much longer. -/
theorem own_prefix {w : World} {B g p i c : Nat} {xs ys : List Value} (h : w.ownsRow B 3 1 (.slice (some ⟨g, 0, none⟩) (p + i) c) (p + i) (xs ++ ys)) (hx : xs.length = p) : w.ownsRow B 3 1 (.slice (some ⟨g, 0, none⟩) p c) p xs := by
  rcases h.2 with ⟨h', _⟩ | ⟨g', cap, cur, e, hB, hh, hc, hm, hs, ht⟩
  · cases h'
  · cases e
    refine ⟨by omega, .inr ⟨g, c, cur, rfl, hB, hh, by omega, hm, hs, ?_⟩⟩
    have e1 : cur.toList.take (p * 1) = (cur.toList.take ((p + i) * 1)).take (p * 1) := by rw [List.take_take]; congr 1; omega
    rw [e1, ht, List.take_append_of_le_length (by omega), List.take_of_length_le (by omega)]

section
variable {w w' : World} {B : Nat} {v : Value} {vs : List Value} {ls : List (List Int)}

/-- b is a block of one of the lists. -/
def inV (vs : List Value) (b : Nat) : Prop := ∃ (u : Nat) (x : Value), vs[u]? = some x ∧ x.ownBlock = some b

/-- What is not written stays. -/
theorem RowsZ.kept (h : RowsZ w B v vs ls) (hb : ∀ b, (v.ownBlock = some b ∨ inV vs b) → b < w.heap.size → w'.heap[b]? = w.heap[b]?) : RowsZ w' B v vs ls :=
  ⟨h.len, row_same h.outer fun g hg _ hl => hb g (.inl hg) hl, fun u x l hx hl => (h.row u x l hx hl).same fun g hg hlt => hb g (.inr ⟨u, x, hx, hg⟩) hlt, h.apart, h.far⟩

/-- A store into list u. -/
theorem RowsZ.write {u g p c i : Nat} {l : List Int} (h : RowsZ w B v vs ls) (hx : vs[u]? = some (.slice (some ⟨g, 0, none⟩) p c)) (hl : ls[u]? = some l) (hp : l.length = p) (hi : i < p) (z : Int) :
    (∃ y : Int, w.cell? ⟨g, i, none⟩ = some (.int .i64 y)) ∧ w.frozen? ⟨g, i, none⟩ = false ∧ RowsZ (w.setCell ⟨g, i, none⟩ (.int .i64 z)) B v vs (ls.set u (l.set i z)) ∧ B ≤ g := by
  have ho := h.row u _ l hx hl
  have hul := (List.getElem?_eq_some_iff.1 hl).1
  unfold OwnZ at ho
  rw [hp] at ho
  obtain ⟨y, hy⟩ : ∃ y, l[i]? = some y := ⟨_, List.getElem?_eq_getElem (by omega)⟩
  have hc := World.ownsRow.cells ho (g := g) rfl i (.int .i64 y) (by rw [List.getElem?_map, hy]; rfl)
  have ea : ((⟨g, 0, none⟩ : Addr).add i) = ⟨g, i, none⟩ := by
    by_cases h0 : i = 0 <;> simp [Addr.add, h0]
  rw [ea] at hc
  have hst := (ho.stored i (.int .i64 z)).1
  have hoth : ∀ b, b ≠ g → (w.setCell ⟨g, i, none⟩ (.int .i64 z)).heap[b]? = w.heap[b]? := fun b hb => heap_setCell_other w ⟨g, i, none⟩ b _ hb
  refine ⟨⟨y, hc⟩, ho.frozenAt i, ⟨by simp [h.len], by rw [List.length_set]; exact row_same h.outer fun b hb _ _ => hoth b (fun e => h.far u _ g hx rfl (by rw [← e]; exact hb)), fun a q k ha hk => ?_, h.apart, h.far⟩, (World.ownsRow.lt ho g rfl).1⟩
  rw [List.getElem?_set] at hk
  by_cases e : u = a
  · subst e
    rw [if_pos rfl, if_pos hul] at hk
    rw [hx] at ha
    cases ha
    cases hk
    unfold OwnZ
    rw [List.length_set, hp, List.map_set]
    exact hst
  · rw [if_neg e] at hk
    exact (h.row a q k ha hk).same fun b hb _ => hoth b (fun e2 => h.apart u a _ q g e hx ha rfl (by rw [← e2]; exact hb))
end

end Go.Proofs.Ytponmjipbcmlhaa
