import Derived.Test.YtalfpbalekbinaaMg12
import Derived.Maps.AppendAt
import Derived.ArgAppend
import Derived.Deep.DeepAppendRoom
import Derived.Deep.QuietTactic
import Derived.BigQuiet
import Derived.BigRegion
import Derived.Test.YtalfpbalekbinaaMg03
/-
  A list of lists of ints, each in memory of its own.
-/
namespace Go.Proofs.Ytalfpbalekbinaa
open Go.RowKit

theorem Try.infoRow : (Try.prog.info? 26).map (fun i => (i.zero, i.size, i.bytes)) = some (some (.slice none 0 0), 1, 24) := by kernel_rfl

theorem own_succ {W : World} {base : Nat} {e : TypeId} {size : Nat} {v : Value} {k : Nat} {xs : List Value} (h : W.ownsRow base e size v (k + 1) xs) : ∃ g cap, v = .slice (some ⟨g, 0, none⟩) (k + 1) cap := by
  rcases h.2 with ⟨_, h0⟩ | ⟨g, cap, _, rfl, _⟩
  · omega
  · exact ⟨g, cap, rfl⟩

/-- v is a list of the slices vs, in memory of its own laid since block B; each of them a list of its own, ls. -/
structure RowsZ (w : World) (B : Nat) (v : Value) (vs : List Value) (ls : List (List Int)) : Prop where
  len : vs.length = ls.length
  outer : w.ownsRow B 26 1 v ls.length vs
  row : ∀ (u : Nat) (x : Value) (l : List Int), vs[u]? = some x → ls[u]? = some l → OwnZ w B x l
  apart : ∀ (u u' : Nat) (x x' : Value) (b : Nat), u ≠ u' → vs[u]? = some x → vs[u']? = some x' → x.ownBlock = some b → x'.ownBlock ≠ some b
  far : ∀ (u : Nat) (x : Value) (b : Nat), vs[u]? = some x → x.ownBlock = some b → v.ownBlock ≠ some b

section
variable {w w' : World} {B : Nat} {v : Value} {vs : List Value} {ls : List (List Int)}
theorem RowsZ.at (h : RowsZ w B v vs ls) {u : Nat} {x : Value} (hx : vs[u]? = some x) : ∃ l, ls[u]? = some l := ⟨_, List.getElem?_eq_getElem (by rw [← h.len]; exact (List.getElem?_eq_some_iff.1 hx).1)⟩
theorem RowsZ.at' (h : RowsZ w B v vs ls) {u : Nat} {l : List Int} (hl : ls[u]? = some l) : ∃ x, vs[u]? = some x := ⟨_, List.getElem?_eq_getElem (by rw [h.len]; exact (List.getElem?_eq_some_iff.1 hl).1)⟩
theorem row_same {e : TypeId} {s n : Nat} {xs : List Value} (h : w.ownsRow B e s v n xs) (hb : ∀ g, v.ownBlock = some g → B ≤ g → g < w.heap.size → w'.heap[g]? = w.heap[g]?) : w'.ownsRow B e s v n xs := by
  refine ⟨h.1, ?_⟩
  rcases h.2 with h | ⟨g, cap, cur, e1, hgB, hh, hr⟩
  · exact .inl h
  · exact .inr ⟨g, cap, cur, e1, hgB, (hb g (by rw [e1]; rfl) hgB (lt_of_block hh)).trans hh, hr⟩
theorem RowsZ.same (h : RowsZ w B v vs ls) (hb : ∀ g, B ≤ g → g < w.heap.size → w'.heap[g]? = w.heap[g]?) : RowsZ w' B v vs ls :=
  ⟨h.len, row_same h.outer fun g _ h1 h2 => hb g h1 h2, fun u x l hx hl => row_same (h.row u x l hx hl) fun g _ h1 h2 => hb g h1 h2, h.apart, h.far⟩
theorem RowsZ.later (h : RowsZ w B v vs ls) (hb : Below w.heap.size w w') : RowsZ w' B v vs ls := h.same fun g _ hg => hb.block g hg
theorem RowsZ.nil (w : World) (B : Nat) : RowsZ w B (.slice none 0 0) [] [] := ⟨rfl, World.ownsRow_nil _ _ _ _, fun u x l hx => by simp at hx, fun u u' x x' b _ hx => by simp at hx, fun u x b hx => by simp at hx⟩

/-- What lies in the blocks of the rows that a step leaves alone. -/
theorem RowsZ.lower {B' : Nat} (h : RowsZ w B v vs ls) (hB : B' ≤ B) : RowsZ w B' v vs ls := by
  refine ⟨h.len, ⟨h.outer.1, ?_⟩, fun u x l hx hl => (h.row u x l hx hl).lower hB, h.apart, h.far⟩
  rcases h.outer.2 with h | ⟨g, cap, cur, e1, hgB, hr⟩
  · exact .inl h
  · exact .inr ⟨g, cap, cur, e1, Nat.le_trans hB hgB, hr⟩

/-- One list more at the end: x, a list l of its own that is none of those that are there. W: the world in which the row is appended to (x has been put into a cell of its own there). -/
theorem RowsZ.grow {W w1 : World} {x v' : Value} {l : List Int} (h : RowsZ W B v vs ls) (hx : OwnZ W B x l) (hx1 : ∀ (u : Nat) (y : Value) (b : Nat), vs[u]? = some y → y.ownBlock = some b → x.ownBlock ≠ some b) (hx2 : ∀ b, v.ownBlock = some b → x.ownBlock ≠ some b)
    {tmp : Obj} (hown : w1.ownsRow B 26 1 v' (ls.length + 1) (vs ++ [x])) (hgrow : (W.alloc tmp).grownBy w1 v.ownBlock) (hat : v'.ownBlock = v.ownBlock ∨ v'.ownBlock = some (W.heap.size + 1)) :
    RowsZ w1 B v' (vs ++ [x]) (ls ++ [l]) := by
  have hsame : ∀ g, v.ownBlock ≠ some g → g < W.heap.size → w1.heap[g]? = W.heap[g]? := fun g hne hg => by
    rw [hgrow.block g (by rw [World.size_alloc]; omega) (fun e => hne e.symm)]
    exact Below.heap_alloc W tmp g hg
  have hold : ∀ u y k, vs[u]? = some y → ls[u]? = some k → OwnZ w1 B y k := fun u y k hy hk => (h.row u y k hy hk).same fun g hg hl => hsame g (h.far u y g hy hg) hl
  have hxx : OwnZ w1 B x l := hx.same fun g hg hl => hsame g (fun e => hx2 g e hg) hl
  have hlt : ∀ y k b, OwnZ W B y k → y.ownBlock = some b → b < W.heap.size := fun y k b ho hb => (World.ownsRow.lt ho b hb).2
  have hlast : ∀ u y, (vs ++ [x])[u]? = some y → (u < vs.length ∧ vs[u]? = some y) ∨ (u = vs.length ∧ y = x) := fun u y hy => by
    by_cases hu : u < vs.length
    · rw [List.getElem?_append_left hu] at hy
      exact .inl ⟨hu, hy⟩
    · rw [List.getElem?_append_right (by omega)] at hy
      have hl := (List.getElem?_eq_some_iff.1 hy).1
      have e : u - vs.length = 0 := by simp at hl; omega
      rw [e] at hy
      exact .inr ⟨by omega, (Option.some.inj hy).symm⟩
  refine ⟨by simp [h.len], by rw [List.length_append]; exact hown, fun u y k hy hk => ?_, fun u u' y y' b hne hy hy' hb => ?_, fun u y b hy hb => ?_⟩
  · rcases hlast u y hy with ⟨hu, h1⟩ | ⟨hu, rfl⟩
    · rw [List.getElem?_append_left (by rw [← h.len]; exact hu)] at hk
      exact hold u y k h1 hk
    · rw [hu, h.len, List.getElem?_append_right (Nat.le_refl _), Nat.sub_self] at hk
      obtain rfl := Option.some.inj hk
      exact hxx
  · rcases hlast u y hy with ⟨hu, h1⟩ | ⟨hu, rfl⟩ <;> rcases hlast u' y' hy' with ⟨hu', h2⟩ | ⟨hu', rfl⟩
    · exact h.apart u u' y y' b hne h1 h2 hb
    · exact hx1 u y b h1 hb
    · intro hc
      exact hx1 u' y' b h2 hc hb
    · omega
  · intro hc
    rcases hat with e | e
    · rw [e] at hc
      rcases hlast u y hy with ⟨hu, h1⟩ | ⟨hu, rfl⟩
      · exact h.far u y b h1 hb hc
      · exact hx2 b hc hb
    · rw [e] at hc
      have hbs := Option.some.inj hc
      rcases hlast u y hy with ⟨hu, h1⟩ | ⟨hu, rfl⟩
      · obtain ⟨k, hk⟩ := h.at h1
        have := hlt y k b (h.row u y k h1 hk) hb
        omega
      · have := hlt y l b hx hb
        omega

/-- List u is appended to. -/
theorem RowsZ.put {W w1 : World} {u g c : Nat} {x x' : Value} {l l' : List Int} (h : RowsZ W B (.slice (some ⟨g, 0, none⟩) ls.length c) vs ls) (hx : vs[u]? = some x) (hl : ls[u]? = some l)
    {tmp : Obj} (hown : OwnZ w1 B x' l') (hgrow : (W.alloc tmp).grownBy w1 x.ownBlock) (hat : x'.ownBlock = x.ownBlock ∨ x'.ownBlock = some (W.heap.size + 1)) :
    w1.cell? ⟨g, u, none⟩ = some x ∧ w1.frozen? ⟨g, u, none⟩ = false ∧ RowsZ (w1.setCell ⟨g, u, none⟩ x') B (.slice (some ⟨g, 0, none⟩) ls.length c) (vs.set u x') (ls.set u l') ∧ Below B W (w1.setCell ⟨g, u, none⟩ x') := by
  have hul := (List.getElem?_eq_some_iff.1 hx).1
  have hfx : x.ownBlock ≠ some g := fun e => h.far u x g hx e rfl
  obtain ⟨hgB, hgl⟩ := World.ownsRow.lt h.outer g rfl
  have hsz : W.heap.size ≤ w1.heap.size := by
    have := hgrow.size
    rw [World.size_alloc] at this
    omega
  have hsame : ∀ b, x.ownBlock ≠ some b → b < W.heap.size → w1.heap[b]? = W.heap[b]? := fun b hne hb => by
    rw [hgrow.block b (by rw [World.size_alloc]; omega) (fun e => hne e.symm)]
    exact Below.heap_alloc W tmp b hb
  have ho1 : w1.ownsRow B 26 1 (.slice (some ⟨g, 0, none⟩) ls.length c) ls.length vs := row_same h.outer fun b hb _ hl => by
    obtain rfl : g = b := by simpa [Value.ownBlock] using hb
    exact hsame g hfx hl
  have hst := ho1.stored u x'
  have hc := World.ownsRow.cells ho1 (g := g) rfl u x hx
  have ea : ((⟨g, 0, none⟩ : Addr).add u) = ⟨g, u, none⟩ := by
    by_cases h0 : u = 0 <;> simp [Addr.add, h0]
  rw [ea] at hc
  have hng : x'.ownBlock ≠ some g := by
    rcases hat with e | e
    · rw [e]; exact hfx
    · rw [e]
      intro e2
      have := Option.some.inj e2
      omega
  have hset : ∀ b, b ≠ g → (w1.setCell ⟨g, u, none⟩ x').heap[b]? = w1.heap[b]? := fun b hb => heap_setCell_other w1 ⟨g, u, none⟩ b x' hb
  have hxB : ∀ b, x.ownBlock = some b → B ≤ b := fun b hb => (World.ownsRow.lt (h.row u x l hx hl) b hb).1
  refine ⟨hc, ho1.frozenAt u, ⟨by simp [h.len], by rw [List.length_set]; exact hst.1, fun a y k ha hk => ?_, fun a a' y y' b hne ha ha' hb => ?_, fun a y b ha hb => ?_⟩, ?_⟩
  · rw [List.getElem?_set] at ha hk
    by_cases e : u = a
    · subst e
      rw [if_pos rfl, if_pos hul] at ha
      rw [if_pos rfl, if_pos (by rw [← h.len]; exact hul)] at hk
      cases ha
      cases hk
      exact hown.same fun b hb _ => hset b (fun e => hng (by rw [hb, e]))
    · rw [if_neg e] at ha hk
      refine (h.row a y k ha hk).same fun b hb hl => ?_
      rw [hset b (fun e => h.far a y b ha hb (by rw [e]; rfl)), hsame b (fun e2 => h.apart u a x y b e hx ha e2 hb) hl]
  · rw [List.getElem?_set] at ha ha'
    have hnew : ∀ (z : Nat) (q : Value) (b : Nat), u ≠ z → vs[z]? = some q → x'.ownBlock = some b → q.ownBlock ≠ some b := fun z q b hz hq hb => by
      rcases hat with e2 | e2
      · rw [e2] at hb
        exact h.apart u z x q b hz hx hq hb
      · rw [e2] at hb
        have hbs := Option.some.inj hb
        intro hc
        obtain ⟨k, hk⟩ := h.at hq
        have := (World.ownsRow.lt (h.row z q k hq hk) b hc).2
        omega
    by_cases e : u = a
    · subst e
      rw [if_pos rfl, if_pos hul] at ha
      cases ha
      rw [if_neg hne] at ha'
      exact hnew a' y' b hne ha' hb
    · rw [if_neg e] at ha
      by_cases e' : u = a'
      · subst e'
        rw [if_pos rfl, if_pos hul] at ha'
        cases ha'
        intro hc
        exact hnew a y b (Ne.symm hne) ha hc hb
      · rw [if_neg e'] at ha'
        exact h.apart a a' y y' b hne ha ha' hb
  · rw [List.getElem?_set] at ha
    by_cases e : u = a
    · subst e
      rw [if_pos rfl, if_pos hul] at ha
      cases ha
      intro hc
      obtain rfl : g = b := by simpa [Value.ownBlock] using hc
      exact hng hb
    · rw [if_neg e] at ha
      exact h.far a y b ha hb
  · refine ⟨hgrow.os, hgrow.tape, hgrow.output, by simpa using hsz, fun k hk => ?_⟩
    rw [hset k (by omega), hsame k (fun e => by have := hxB k e; omega) (by omega)]
end

end Go.Proofs.Ytalfpbalekbinaa

/-
  An append that leaves the list it began with as it was; lists of lists under stores.
-/
namespace Go.Proofs.Ytalfpbalekbinaa
open Go.RowKit

theorem grown_any {w w' : World} (h : w.grownBy w' none) (r : Option Nat) : w.grownBy w' r := ⟨h.os, h.tape, h.output, h.size, fun k hk _ => h.block k hk (by simp)⟩

/-- The row that a longer one in its block began with. -/
theorem own_front {w : World} {B g p c : Nat} {xs : List Value} {z : Value} (h : w.ownsRow B 3 1 (.slice (some ⟨g, 0, none⟩) (p + 1) c) (p + 1) (xs ++ [z])) (hx : xs.length = p) : w.ownsRow B 3 1 (.slice (some ⟨g, 0, none⟩) p c) p xs := by
  rcases h.2 with ⟨h', _⟩ | ⟨g', cap, cur, e, hB, hh, hc, hm, hs, ht⟩
  · cases h'
  · cases e
    refine ⟨by omega, .inr ⟨g, c, cur, rfl, hB, hh, by omega, hm, hs, ?_⟩⟩
    have e1 : cur.toList.take (p * 1) = (cur.toList.take ((p + 1) * 1)).take (p * 1) := by rw [List.take_take]; congr 1; omega
    rw [e1, ht, List.take_append_of_le_length (by omega), List.take_of_length_le (by omega)]

/-- 'append(v, z)' of a list of one's own: the list it began with reads as before. -/
theorem wpList_append_keep {W : World} {ops : Array Oper} {rest : List Oper} {o : Oper} {a : Act} {Q : Exit → Act → World → Prop} (hgd : o.guard = none) (s x : Operand)
    (ho : o.op = .call { callee := .builtin .append, args := #[s, x], argTypes := #[26, 26] }) (B p : Nat) (ao : Option Addr) (c : Nat) (xs : List Value) (z : Int)
    (hs : a.eval s = .slice ao p c) (hown : W.ownsRow B 3 1 (.slice ao p c) p xs) (ad : Addr) (hx : a.eval x = .slice (some ad) 1 1) (hnews : ∀ j u, [Value.int .i64 z][j]? = some u → W.cell? (ad.add j) = some u) (hp : p ≤ 17592186044000) (hB : B ≤ W.heap.size)
    (h : ∀ g' c' w', w'.ownsRow B 3 1 (.slice (some ⟨g', 0, none⟩) (p + 1) c') (p + 1) (xs ++ [.int .i64 z]) → w'.ownsRow B 3 1 (.slice ao p c) p xs → W.grownBy w' (Value.slice ao p c).ownBlock → (((Value.slice ao p c).ownBlock = some g' ∧ c' = c) ∨ W.heap.size ≤ g') → g' < w'.heap.size → wpList Try.prog ops Q rest (a.put o.dst (.slice (some ⟨g', 0, none⟩) (p + 1) c')) w') :
    wpList Try.prog ops Q (o :: rest) a W := by
  obtain ⟨i0, hi, hz0, hz1, hz2⟩ := info_parts Try.infoNum
  have hxl : xs.length = p := by have := hown.1; omega
  by_cases hroom : p + 1 ≤ c
  · obtain ⟨g, hg⟩ : ∃ g, ao = some ⟨g, 0, none⟩ := by
      rcases hown.2 with ⟨h', _⟩ | ⟨g, cap, cur, e, _⟩
      · cases h'; omega
      · cases e; exact ⟨g, rfl⟩
    subst hg
    refine wpList_append_own_spare (w := W) hgd s x 26 ho B 3 i0 1 Try.underlying26 hi hz1 g p c xs hs hown ad 1 1 [.int .i64 z] hx rfl hnews (by simp [Value.oneCell']) hroom ?_
    intro w' h2 h3
    exact h g c w' h2 (own_front h2 hxl) h3 (.inl ⟨rfl, rfl⟩) (World.ownsRow.lt h2 g rfl).2
  · refine wpList_append_grows W hgd s x 26 ho 3 i0 (.int .i64 0) 1 8 Try.underlying26 hi hz0 hz1 hz2 rfl (by decide) ao p c xs hs (fun e => ?_) (by omega) (fun b hb j u hj => ?_) ad 1 1 [.int .i64 z] hx rfl hnews (by simp [Value.oneCell']) (by omega) (by unfold maxLen; omega) (by omega) ?_
    · rcases hown.2 with ⟨h', h0⟩ | ⟨g, cap, cur, e', _⟩
      · cases h'; exact ⟨h0, rfl⟩
      · rw [e] at e'; cases e'
    · rcases hown.2 with ⟨h', h0⟩ | ⟨g, cap, cur, e', _⟩
      · rw [hb] at h'; cases h'
      · rw [hb] at e'
        cases e'
        have := World.ownsRow.cells hown (g := g) (by rw [hb]; rfl) j u hj
        exact this
    · intro v' w' h2 h3
      obtain ⟨g', c', rfl⟩ := own_succ h2
      have hlt := World.ownsRow.lt h2 g' rfl
      have h4 : w'.ownsRow B 3 1 (.slice (some ⟨g', 0, none⟩) (p + 1) c') (p + 1) (xs ++ [.int .i64 z]) := by
        rcases h2.2 with h' | ⟨g, cap, cur, e1, hgB, hr⟩
        · exact ⟨h2.1, .inl h'⟩
        · exact ⟨h2.1, .inr ⟨g, cap, cur, e1, Nat.le_trans hB hgB, hr⟩⟩
      exact h g' c' w' h4 (hown.kept h3 (by cases (Value.slice ao p c).ownBlock <;> simp)) (grown_any h3 _) (.inr hlt.1) hlt.2

/-- The same, however much longer. -/
theorem own_prefix {w : World} {B g p i c : Nat} {xs ys : List Value} (h : w.ownsRow B 3 1 (.slice (some ⟨g, 0, none⟩) (p + i) c) (p + i) (xs ++ ys)) (hx : xs.length = p) : w.ownsRow B 3 1 (.slice (some ⟨g, 0, none⟩) p c) p xs := by
  rcases h.2 with ⟨h', _⟩ | ⟨g', cap, cur, e, hB, hh, hc, hm, hs, ht⟩
  · cases h'
  · cases e
    refine ⟨by omega, .inr ⟨g, c, cur, rfl, hB, hh, by omega, hm, hs, ?_⟩⟩
    have e1 : cur.toList.take (p * 1) = (cur.toList.take ((p + i) * 1)).take (p * 1) := by rw [List.take_take]; congr 1; omega
    rw [e1, ht, List.take_append_of_le_length (by omega), List.take_of_length_le (by omega)]

section
variable {w w' : World} {B : Nat} {v : Value} {vs : List Value} {ls : List (List Int)}

/-- b is a block of one of the lists. -/
def inV (vs : List Value) (b : Nat) : Prop := ∃ (u : Nat) (x : Value), vs[u]? = some x ∧ x.ownBlock = some b

/-- What is not written stays. -/
theorem RowsZ.kept (h : RowsZ w B v vs ls) (hb : ∀ b, (v.ownBlock = some b ∨ inV vs b) → b < w.heap.size → w'.heap[b]? = w.heap[b]?) : RowsZ w' B v vs ls :=
  ⟨h.len, row_same h.outer fun g hg _ hl => hb g (.inl hg) hl, fun u x l hx hl => (h.row u x l hx hl).same fun g hg hlt => hb g (.inr ⟨u, x, hx, hg⟩) hlt, h.apart, h.far⟩

/-- A store into list u. -/
theorem RowsZ.write {u g p c i : Nat} {l : List Int} (h : RowsZ w B v vs ls) (hx : vs[u]? = some (.slice (some ⟨g, 0, none⟩) p c)) (hl : ls[u]? = some l) (hp : l.length = p) (hi : i < p) (z : Int) :
    (∃ y : Int, w.cell? ⟨g, i, none⟩ = some (.int .i64 y)) ∧ w.frozen? ⟨g, i, none⟩ = false ∧ RowsZ (w.setCell ⟨g, i, none⟩ (.int .i64 z)) B v vs (ls.set u (l.set i z)) ∧ B ≤ g := by
  have ho := h.row u _ l hx hl
  have hul := (List.getElem?_eq_some_iff.1 hl).1
  unfold OwnZ at ho
  rw [hp] at ho
  obtain ⟨y, hy⟩ : ∃ y, l[i]? = some y := ⟨_, List.getElem?_eq_getElem (by omega)⟩
  have hc := World.ownsRow.cells ho (g := g) rfl i (.int .i64 y) (by rw [List.getElem?_map, hy]; rfl)
  have ea : ((⟨g, 0, none⟩ : Addr).add i) = ⟨g, i, none⟩ := by
    by_cases h0 : i = 0 <;> simp [Addr.add, h0]
  rw [ea] at hc
  have hst := (ho.stored i (.int .i64 z)).1
  have hoth : ∀ b, b ≠ g → (w.setCell ⟨g, i, none⟩ (.int .i64 z)).heap[b]? = w.heap[b]? := fun b hb => heap_setCell_other w ⟨g, i, none⟩ b _ hb
  refine ⟨⟨y, hc⟩, ho.frozenAt i, ⟨by simp [h.len], by rw [List.length_set]; exact row_same h.outer fun b hb _ _ => hoth b (fun e => h.far u _ g hx rfl (by rw [← e]; exact hb)), fun a q k ha hk => ?_, h.apart, h.far⟩, (World.ownsRow.lt ho g rfl).1⟩
  rw [List.getElem?_set] at hk
  by_cases e : u = a
  · subst e
    rw [if_pos rfl, if_pos hul] at hk
    rw [hx] at ha
    cases ha
    cases hk
    unfold OwnZ
    rw [List.length_set, hp, List.map_set]
    exact hst
  · rw [if_neg e] at hk
    exact (h.row a q k ha hk).same fun b hb _ => hoth b (fun e2 => h.apart u a _ q g e hx ha rfl (by rw [← e2]; exact hb))
end

end Go.Proofs.Ytalfpbalekbinaa

/-
  A stack of ints: a cell that holds a list of one's own; what its calls do.
-/
namespace Go.Proofs.Ytalfpbalekbinaa
open Go.RowKit

/-- Cell o of block b, which holds cs, is the list v of the ints K, in memory of its own. -/
structure StkAt (w : World) (b o : Nat) (cs : Array Value) (T : TypeId) (B : Nat) (v : Value) (K : List Int) : Prop where
  blk : w.heap[b]? = some (.cells cs T (0, 0))
  at_ : cs[o]? = some v
  own : OwnZ w B v K
  far : v.ownBlock ≠ some b

section
variable {w w' : World} {b o B : Nat} {cs : Array Value} {T : TypeId} {v : Value} {K : List Int}
theorem StkAt.cell (h : StkAt w b o cs T B v K) : w.cell? ⟨b, o, none⟩ = some v := by
  simp [World.cell?, h.blk, h.at_]
theorem StkAt.free (h : StkAt w b o cs T B v K) : w.frozen? ⟨b, o, none⟩ = false := by
  simp [World.frozen?, h.blk]
theorem StkAt.lt (h : StkAt w b o cs T B v K) : b < w.heap.size := lt_of_block h.blk
theorem OwnZ.row_snoc {x : Int} (h : OwnZ w B v (K ++ [x])) : ∃ g c, v = .slice (some ⟨g, 0, none⟩) (K.length + 1) c ∧ w.cell? ⟨g, K.length, none⟩ = some (.int .i64 x) ∧ K.length + 1 ≤ c ∧ B ≤ g ∧ g < w.heap.size := by
  unfold OwnZ at h
  rw [List.length_append, List.length_singleton, List.map_append] at h
  obtain ⟨g, c, rfl⟩ := own_succ h
  have hc := World.ownsRow.cells h (g := g) rfl K.length (.int .i64 x) (by simp)
  have ea : ((⟨g, 0, none⟩ : Addr).add K.length) = ⟨g, K.length, none⟩ := by
    by_cases h0 : K.length = 0 <;> simp [Addr.add, h0]
  rw [ea] at hc
  refine ⟨g, c, rfl, hc, ?_, World.ownsRow.lt h g rfl⟩
  rcases h.2 with ⟨h', _⟩ | ⟨g', cap, cur, e, _, _, hcc, _⟩
  · cases h'
  · cases e; exact hcc
theorem OwnZ.front {x : Int} {g c : Nat} (h : OwnZ w B (.slice (some ⟨g, 0, none⟩) (K.length + 1) c) (K ++ [x])) : OwnZ w B (.slice (some ⟨g, 0, none⟩) K.length c) K := by
  unfold OwnZ at h ⊢
  rw [List.length_append, List.length_singleton, List.map_append] at h
  exact own_front h (by simp)
end

/-- What push does. -/
def PushPost (b o : Nat) (cs : Array Value) (T : TypeId) (B : Nat) (v : Value) (K : List Int) (w : World) (e : Ending) (w' : World) : Prop :=
  e = .returned (.tuple #[]) ∧ ∃ v', StkAt w' b o (cs.setIfInBounds o v') T B v' K ∧ (v'.ownBlock = v.ownBlock ∨ ∃ g, v'.ownBlock = some g ∧ w.heap.size ≤ g) ∧ Wrote (fun k => k = b ∨ v.ownBlock = some k) w w'

theorem set_at {cs : Array Value} {o : Nat} {v v' : Value} (h : cs[o]? = some v) : (cs.setIfInBounds o v')[o]? = some v' := by
  have := (Array.getElem?_eq_some_iff.1 h).1
  simp [this]

set_option maxRecDepth 100000 in
set_option maxHeartbeats 4000000 in
theorem push_any (b o : Nat) (cs : Array Value) (T : TypeId) (B : Nat) (v : Value) (K : List Int) (x : Int) (w : World) (h : StkAt w b o cs T B v K) (hB : B ≤ w.heap.size) (hl : K.length ≤ 17592186044000) :
    Calls Try.prog 88 #[.pointer (some ⟨b, o, none⟩), .int .i64 x] w (PushPost b o cs T B v (K ++ [x]) w) := by
  obtain ⟨i0, hi, hz0, hz1, hz2⟩ := info_parts Try.infoNum
  have c0 := h.cell
  have HH := Nu.hid h
  have hlt := h.lt
  have hrow : w.ownsRow B 3 1 v K.length (K.map (Value.int .i64)) := h.own
  have HROW := Nu.hid hrow
  clear h hrow
  go_enter Try.func88, Try.ntmps88
  go_wp2_with (at_builtin; refine wpList_append_own_at _ rfl _ _ 26 rfl B 3 i0 (.int .i64 0) 1 8 Try.underlying26 hi hz0 hz1 hz2 rfl (by decide) _ _ _ rfl (World.ownsRow.alloc HROW.out _) ⟨w.heap.size, 0, none⟩ 1 1 [.int .i64 x] rfl rfl (cell_one_new _ _ _) (by simp [Value.oneCell']) (by unfold maxLen; omega) (by omega) (by simp; omega) ?_; refine Hid.out ?_)
  refine Nu.hid ?_
  intro v' w1 hown hg _ hat
  have hb1 : w1.heap[b]? = some (.cells cs T (0, 0)) := by
    rw [hg.block b (by rw [World.size_alloc]; omega) (fun e => HH.out.far e.symm)]
    exact (Below.heap_alloc w _ b hlt).trans HH.out.blk
  have c1 : w1.cell? ⟨b, o, none⟩ = some v := by simp [World.cell?, hb1, HH.out.at_]
  have f1 : w1.frozen? ⟨b, o, none⟩ = false := by simp [World.frozen?, hb1]
  have hat2 : v'.ownBlock = v.ownBlock ∨ v'.ownBlock = some (w.heap.size + 1) := by simpa using hat
  have hfar : v'.ownBlock ≠ some b := by
    rcases hat2 with e | e
    · rw [e]; exact HH.out.far
    · rw [e]; intro e2; have := Option.some.inj e2; omega
  have hz : OwnZ w1 B v' (K ++ [x]) := by
    unfold OwnZ
    rw [List.length_append, List.map_append]
    exact hown
  have HEND : Hid (PushPost b o cs T B v (K ++ [x]) w (.returned (.tuple #[])) (w1.setCell ⟨b, o, none⟩ v')) := by
    refine ⟨rfl, v', ⟨heap_setCell_same w1 b o _ _ _ hb1, set_at HH.out.at_, hz.same fun g hgg _ => heap_setCell_other w1 ⟨b, o, none⟩ g _ (fun e => hfar (by rw [hgg]; exact congrArg some e)), hfar⟩, ?_, ?_⟩
    · rcases hat2 with e | e
      · exact .inl e
      · exact .inr ⟨_, e, by omega⟩
    · refine ⟨hg.os, hg.tape, hg.output, ?_, fun k hk hn => ?_⟩
      · have := hg.size
        rw [World.size_alloc] at this
        simp
        omega
      · rw [heap_setCell_other w1 ⟨b, o, none⟩ k _ (fun e => hn (.inl e)), hg.block k (by rw [World.size_alloc]; omega) (fun e => hn (.inr e.symm))]
        exact Below.heap_alloc w _ k hk
  obtain ⟨g, cap, hv⟩ := own_succ hown
  subst hv
  clear hown hg hat hat2 hfar hz hb1 HH HROW
  go_wp2
  go_end0
  exact HEND.out

set_option maxRecDepth 100000 in
set_option maxHeartbeats 4000000 in
theorem empty_any (b o : Nat) (cs : Array Value) (T : TypeId) (B : Nat) (v : Value) (K : List Int) (w : World) (h : StkAt w b o cs T B v K) :
    Calls Try.prog 86 #[.pointer (some ⟨b, o, none⟩)] w fun e w' => e = .returned (.bool (decide (K.length = 0))) ∧ w' = w := by
  have c0 := h.cell
  obtain ⟨ao, cap, rfl, _, _⟩ := h.own.form
  clear h
  by_cases hk : K.length = 0
  · rw [hk] at c0
    have hd : decide (K.length = 0) = true := by simp [hk]
    rw [hd]
    clear hd hk
    go_enter Try.func86, Try.ntmps86
    go_wp2
    go_ret
    exact ⟨rfl, rfl⟩
  · have hd : decide (K.length = 0) = false := by simp [hk]
    have he : ((K.length : Int) == 0) = false := by simp only [beq_eq_false_iff_ne, ne_eq]; omega
    rw [hd]
    clear hd hk
    go_enter Try.func86, Try.ntmps86
    go_wp2
    go_ret
    exact ⟨rfl, rfl⟩

set_option maxRecDepth 100000 in
set_option maxHeartbeats 4000000 in
theorem top_any (b o : Nat) (cs : Array Value) (T : TypeId) (B : Nat) (v : Value) (K : List Int) (x : Int) (w : World) (h : StkAt w b o cs T B v (K ++ [x])) (hl : K.length ≤ 17592186044000) :
    Calls Try.prog 101 #[.pointer (some ⟨b, o, none⟩)] w fun e w' => e = .returned (.int .i64 x) ∧ ∃ k, w' = w.drewN k := by
  have c0 := h.cell
  obtain ⟨g, c, rfl, c1, h2, _⟩ := h.own.row_snoc
  obtain ⟨p, hp⟩ : ∃ p, K.length = p := ⟨_, rfl⟩
  rw [hp] at c0 c1 h2 hl
  clear h hp
  have e1 : ((p : Int) + 1) - 1 = (p : Int) := by omega
  have e2 : (0 : Int) ≤ (p : Int) := by omega
  have e3 : (p : Int) < (p : Int) + 1 := by omega
  go_enter Try.func101, Try.ntmps101
  go_wp2_with fail
  go_quiet (fail)
  go_wp2
  go_ret
  exact ⟨rfl, nq, rfl⟩

/-- What pop does. -/
def PopPost (b o : Nat) (cs : Array Value) (T : TypeId) (B : Nat) (v : Value) (K : List Int) (x : Int) (w : World) (e : Ending) (w' : World) : Prop :=
  e = .returned (.int .i64 x) ∧ ∃ v', StkAt w' b o (cs.setIfInBounds o v') T B v' K ∧ v'.ownBlock = v.ownBlock ∧ Wrote (fun k => k = b) w w'

set_option maxRecDepth 100000 in
set_option maxHeartbeats 4000000 in
theorem pop_any (b o : Nat) (cs : Array Value) (T : TypeId) (B : Nat) (v : Value) (K : List Int) (x : Int) (w : World) (h : StkAt w b o cs T B v (K ++ [x])) (hl : K.length ≤ 17592186044000) :
    Calls Try.prog 87 #[.pointer (some ⟨b, o, none⟩)] w (PopPost b o cs T B v K x w) := by
  have HT := Nu.hid (top_any b o cs T B v K x w h hl)
  have hH := h
  have c0 := h.cell
  obtain ⟨g, c, rfl, c1, h2, _⟩ := h.own.row_snoc
  have f0 := h.free
  have hown := hH.own.front
  have hfar := hH.far
  have HEND : Hid (∀ k, PopPost b o cs T B (.slice (some ⟨g, 0, none⟩) (K.length + 1) c) K x w (.returned (.int .i64 x)) ((w.drewN k).setCell ⟨b, o, none⟩ (.slice (some ⟨g, 0, none⟩) K.length c))) := by
    intro k
    have hgb : g ≠ b := fun e => hfar (congrArg some e)
    refine ⟨rfl, _, ⟨heap_setCell_same (w.drewN k) b o _ _ _ hH.blk, set_at hH.at_, ?_, hfar⟩, rfl, ?_⟩
    · refine hown.same fun g' hg' _ => ?_
      obtain rfl : g = g' := Option.some.inj hg'
      exact heap_setCell_other (w.drewN k) ⟨b, o, none⟩ g _ hgb
    · exact ((Wrote.refl (fun k => k = b) w).drewN k).setCell rfl _
  obtain ⟨p, hp⟩ : ∃ p, K.length = p := ⟨_, rfl⟩
  rw [hp] at c0 c1 h2 HEND hl
  clear h hp hH hown hfar c1
  have e1 : ((p : Int) + 1) - 1 = (p : Int) := by omega
  have e2 : (0 : Int) ≤ (p : Int) := by omega
  have e3 : (p : Int) ≤ (c : Int) := by omega
  go_enter Try.func87, Try.ntmps87
  go_wp2_with (go_at_call 101; refine HT.out.mono ?_; rintro e w1 ⟨rfl, k1, rfl⟩)
  go_big_region
  go_wp2
  go_ret
  exact HEND.out _

end Go.Proofs.Ytalfpbalekbinaa

/-
  So many numbers that nothing has been said of.
-/
namespace Go.Proofs.Ytalfpbalekbinaa
open Go.RowKit

set_option maxRecDepth 100000 in
set_option maxHeartbeats 4000000 in
theorem unset_any (n : Nat) (w : World) (hn : n ≤ 8388608) :
    Calls Try.prog 84 #[.int .i64 (n : Int)] w fun e w' => ∃ g, e = .returned (.slice (some ⟨g, 0, none⟩) n n) ∧ w.heap.size ≤ g ∧ IntsBlk w' g (List.replicate n (-1)) ∧ Below w.heap.size w w' := by
  obtain ⟨i0, hi, hz0, hz1, hz2⟩ := info_parts Try.infoNum
  go_enter Try.func84, Try.ntmps84
  go_wp2_with (at_make; refine wpList_make_full _ rfl _ _ 26 rfl w.heap.size 3 i0 (.int .i64 0) 1 Try.underlying26 hi hz0 hz1 _ _ _ _ n rfl rfl rfl rfl (by rw [hz2]; omega) (by unfold maxLen; omega) (Nat.le_refl _) ?_; refine Hid.out ?_)
  refine Nu.hid ?_
  intro w2 hrow hg2
  rw [made_zeros] at hrow
  have hik := ints_of_row hrow
  have hb2 : Below w.heap.size w w2 := (Below.refl _ _).grown hg2 (Nat.le_refl _) (fun j hj => by cases hj)
  have HI2 := Nu.hid hik
  have HB2 := Nu.hid hb2
  clear hrow hg2 hik hb2
  go_wp2
  go_loopw [9] (fun c wr => ∃ (k : Nat) (S : List Int), k ≤ n ∧ c = .int .i64 k ∧ S.length = n ∧ (∀ v, v < k → S[v]? = some (-1)) ∧ IntsBlk wr w.heap.size S ∧ Below w.heap.size w wr) (fun c _ => n - (intOf c).toNat)
  case atStart => exact ⟨0, _, Nat.zero_le _, rfl, by simp, fun v hv => by omega, HI2.out, HB2.out⟩
  case round =>
    obtain ⟨k, S, hk, rfl, hSl, hS, hiS, hb⟩ := hrel
    have hsz := hiS.lt
    have HS := Nu.hid hS
    have HIS := Nu.hid hiS
    have HB := Nu.hid hb
    by_cases hkn : k < n
    · have hk0 : (0 : Int) ≤ (k : Int) := by omega
      have hk1 : (k : Int) < (n : Int) := by omega
      obtain ⟨x, hx⟩ : ∃ x, S[k]? = some x := ⟨_, List.getElem?_eq_getElem (by omega)⟩
      have c0 := hiS.cell hx
      have c1 := hiS.free k
      have HN1 := Nu.hid (hiS.set k (-1))
      have HBN := Nu.hid (hb.setCell (p := ⟨w.heap.size, k, none⟩) (Nat.le_refl _) (.int .i64 (-1)))
      clear hS hiS hb hx
      go_wp2
      go_roundw
      case rel =>
        refine ⟨k + 1, S.set k (-1), by omega, by go_num, by simp [hSl], fun v hv => ?_, HN1.out, HBN.out⟩
        rw [List.getElem?_set]
        by_cases e : k = v
        · subst e
          rw [if_pos rfl, if_pos (by omega)]
        · rw [if_neg e]
          exact HS.out v (by omega)
      case measure => simp [intOf]; omega
    · have hd : ¬ ((k : Int) < (n : Int)) := by omega
      have e : S = List.replicate n (-1) := by
        refine List.ext_getElem? fun v => ?_
        by_cases hv : v < n
        · rw [hS v (by omega), List.getElem?_replicate, if_pos hv]
        · rw [List.getElem?_eq_none (by omega), List.getElem?_eq_none (by simp; omega)]
      subst e
      clear hS hiS hb
      go_wp2
      go_ret
      exact ⟨w.heap.size, rfl, Nat.le_refl _, HIS.out, HB.out⟩

end Go.Proofs.Ytalfpbalekbinaa
