import Derived.Test.YtfjgmbimapkabaaDoorMg08
/-
  A list of lists of ints, each in memory of its own.
-/
namespace Go.Proofs.YtfjgmbimapkabaaDoor
open Go.RowKit

theorem Tryd.infoRow : (Tryd.prog.info? 34).map (fun i => (i.zero, i.size, i.bytes)) = some (some (.slice none 0 0), 1, 24) := by kernel_rfl

theorem own_succ {W : World} {base : Nat} {e : TypeId} {size : Nat} {v : Value} {k : Nat} {xs : List Value} (h : W.ownsRow base e size v (k + 1) xs) : ∃ g cap, v = .slice (some ⟨g, 0, none⟩) (k + 1) cap := by
  rcases h.2 with ⟨_, h0⟩ | ⟨g, cap, _, rfl, _⟩
  · omega
  · exact ⟨g, cap, rfl⟩

/-- v is a list of the slices vs, in memory of its own laid since block B; each of them a list of its own, ls. -/
structure RowsZ (w : World) (B : Nat) (v : Value) (vs : List Value) (ls : List (List Int)) : Prop where
  len : vs.length = ls.length
  outer : w.ownsRow B 34 1 v ls.length vs
  row : ∀ (u : Nat) (x : Value) (l : List Int), vs[u]? = some x → ls[u]? = some l → OwnZ w B x l
  apart : ∀ (u u' : Nat) (x x' : Value) (b : Nat), u ≠ u' → vs[u]? = some x → vs[u']? = some x' → x.ownBlock = some b → x'.ownBlock ≠ some b
  far : ∀ (u : Nat) (x : Value) (b : Nat), vs[u]? = some x → x.ownBlock = some b → v.ownBlock ≠ some b

section
variable {w w' : World} {B : Nat} {v : Value} {vs : List Value} {ls : List (List Int)}
theorem RowsZ.at (h : RowsZ w B v vs ls) {u : Nat} {x : Value} (hx : vs[u]? = some x) : ∃ l, ls[u]? = some l := ⟨_, List.getElem?_eq_getElem (by rw [← h.len]; exact (List.getElem?_eq_some_iff.1 hx).1)⟩
theorem RowsZ.at' (h : RowsZ w B v vs ls) {u : Nat} {l : List Int} (hl : ls[u]? = some l) : ∃ x, vs[u]? = some x := ⟨_, List.getElem?_eq_getElem (by rw [h.len]; exact (List.getElem?_eq_some_iff.1 hl).1)⟩
theorem row_same {e : TypeId} {s n : Nat} {xs : List Value} (h : w.ownsRow B e s v n xs) (hb : ∀ g, v.ownBlock = some g → B ≤ g → g < w.heap.size → w'.heap[g]? = w.heap[g]?) : w'.ownsRow B e s v n xs := by
  refine ⟨h.1, ?_⟩
  rcases h.2 with h | ⟨g, cap, cur, e1, hgB, hh, hr⟩
  · exact .inl h
  · exact .inr ⟨g, cap, cur, e1, hgB, (hb g (by rw [e1]; rfl) hgB (lt_of_block hh)).trans hh, hr⟩
theorem RowsZ.same (h : RowsZ w B v vs ls) (hb : ∀ g, B ≤ g → g < w.heap.size → w'.heap[g]? = w.heap[g]?) : RowsZ w' B v vs ls :=
  ⟨h.len, row_same h.outer fun g _ h1 h2 => hb g h1 h2, fun u x l hx hl => row_same (h.row u x l hx hl) fun g _ h1 h2 => hb g h1 h2, h.apart, h.far⟩
theorem RowsZ.later (h : RowsZ w B v vs ls) (hb : Below w.heap.size w w') : RowsZ w' B v vs ls := h.same fun g _ hg => hb.block g hg
theorem RowsZ.nil (w : World) (B : Nat) : RowsZ w B (.slice none 0 0) [] [] := ⟨rfl, World.ownsRow_nil _ _ _ _, fun u x l hx => by simp at hx, fun u u' x x' b _ hx => by simp at hx, fun u x b hx => by simp at hx⟩

/-- What lies in the blocks of the rows that a step leaves alone. -/
theorem RowsZ.lower {B' : Nat} (h : RowsZ w B v vs ls) (hB : B' ≤ B) : RowsZ w B' v vs ls := by
  refine ⟨h.len, ⟨h.outer.1, ?_⟩, fun u x l hx hl => (h.row u x l hx hl).lower hB, h.apart, h.far⟩
  rcases h.outer.2 with h | ⟨g, cap, cur, e1, hgB, hr⟩
  · exact .inl h
  · exact .inr ⟨g, cap, cur, e1, Nat.le_trans hB hgB, hr⟩

/-- One list more at the end: x, a list l of its own that is none of those that are there. W: the world in which the row is appended to (x has been put into a cell of its own there). -/
theorem RowsZ.grow {W w1 : World} {x v' : Value} {l : List Int} (h : RowsZ W B v vs ls) (hx : OwnZ W B x l) (hx1 : ∀ (u : Nat) (y : Value) (b : Nat), vs[u]? = some y → y.ownBlock = some b → x.ownBlock ≠ some b) (hx2 : ∀ b, v.ownBlock = some b → x.ownBlock ≠ some b)
    {tmp : Obj} (hown : w1.ownsRow B 34 1 v' (ls.length + 1) (vs ++ [x])) (hgrow : (W.alloc tmp).grownBy w1 v.ownBlock) (hat : v'.ownBlock = v.ownBlock ∨ v'.ownBlock = some (W.heap.size + 1)) :
    RowsZ w1 B v' (vs ++ [x]) (ls ++ [l]) := by
  have hsame : ∀ g, v.ownBlock ≠ some g → g < W.heap.size → w1.heap[g]? = W.heap[g]? := fun g hne hg => by
    rw [hgrow.block g (by rw [World.size_alloc]; omega) (fun e => hne e.symm)]
    exact Below.heap_alloc W tmp g hg
  have hold : ∀ u y k, vs[u]? = some y → ls[u]? = some k → OwnZ w1 B y k := fun u y k hy hk => (h.row u y k hy hk).same fun g hg hl => hsame g (h.far u y g hy hg) hl
  have hxx : OwnZ w1 B x l := hx.same fun g hg hl => hsame g (fun e => hx2 g e hg) hl
  have hlt : ∀ y k b, OwnZ W B y k → y.ownBlock = some b → b < W.heap.size := fun y k b ho hb => (World.ownsRow.lt ho b hb).2
  have hlast : ∀ u y, (vs ++ [x])[u]? = some y → (u < vs.length ∧ vs[u]? = some y) ∨ (u = vs.length ∧ y = x) := fun u y hy => by
    by_cases hu : u < vs.length
    · rw [List.getElem?_append_left hu] at hy
      exact .inl ⟨hu, hy⟩
    · rw [List.getElem?_append_right (by omega)] at hy
      have hl := (List.getElem?_eq_some_iff.1 hy).1
      have e : u - vs.length = 0 := by simp at hl; omega
      rw [e] at hy
      exact .inr ⟨by omega, (Option.some.inj hy).symm⟩
  refine ⟨by simp [h.len], by rw [List.length_append]; exact hown, fun u y k hy hk => ?_, fun u u' y y' b hne hy hy' hb => ?_, fun u y b hy hb => ?_⟩
  · rcases hlast u y hy with ⟨hu, h1⟩ | ⟨hu, rfl⟩
    · rw [List.getElem?_append_left (by rw [← h.len]; exact hu)] at hk
      exact hold u y k h1 hk
    · rw [hu, h.len, List.getElem?_append_right (Nat.le_refl _), Nat.sub_self] at hk
      obtain rfl := Option.some.inj hk
      exact hxx
  · rcases hlast u y hy with ⟨hu, h1⟩ | ⟨hu, rfl⟩ <;> rcases hlast u' y' hy' with ⟨hu', h2⟩ | ⟨hu', rfl⟩
    · exact h.apart u u' y y' b hne h1 h2 hb
    · exact hx1 u y b h1 hb
    · intro hc
      exact hx1 u' y' b h2 hc hb
    · omega
  · intro hc
    rcases hat with e | e
    · rw [e] at hc
      rcases hlast u y hy with ⟨hu, h1⟩ | ⟨hu, rfl⟩
      · exact h.far u y b h1 hb hc
      · exact hx2 b hc hb
    · rw [e] at hc
      have hbs := Option.some.inj hc
      rcases hlast u y hy with ⟨hu, h1⟩ | ⟨hu, rfl⟩
      · obtain ⟨k, hk⟩ := h.at h1
        have := hlt y k b (h.row u y k h1 hk) hb
        omega
      · have := hlt y l b hx hb
        omega

/-- List u is appended to. -/
theorem RowsZ.put {W w1 : World} {u g c : Nat} {x x' : Value} {l l' : List Int} (h : RowsZ W B (.slice (some ⟨g, 0, none⟩) ls.length c) vs ls) (hx : vs[u]? = some x) (hl : ls[u]? = some l)
    {tmp : Obj} (hown : OwnZ w1 B x' l') (hgrow : (W.alloc tmp).grownBy w1 x.ownBlock) (hat : x'.ownBlock = x.ownBlock ∨ x'.ownBlock = some (W.heap.size + 1)) :
    w1.cell? ⟨g, u, none⟩ = some x ∧ w1.frozen? ⟨g, u, none⟩ = false ∧ RowsZ (w1.setCell ⟨g, u, none⟩ x') B (.slice (some ⟨g, 0, none⟩) ls.length c) (vs.set u x') (ls.set u l') ∧ Below B W (w1.setCell ⟨g, u, none⟩ x') := by
  have hul := (List.getElem?_eq_some_iff.1 hx).1
  have hfx : x.ownBlock ≠ some g := fun e => h.far u x g hx e rfl
  obtain ⟨hgB, hgl⟩ := World.ownsRow.lt h.outer g rfl
  have hsz : W.heap.size ≤ w1.heap.size := by
    have := hgrow.size
    rw [World.size_alloc] at this
    omega
  have hsame : ∀ b, x.ownBlock ≠ some b → b < W.heap.size → w1.heap[b]? = W.heap[b]? := fun b hne hb => by
    rw [hgrow.block b (by rw [World.size_alloc]; omega) (fun e => hne e.symm)]
    exact Below.heap_alloc W tmp b hb
  have ho1 : w1.ownsRow B 34 1 (.slice (some ⟨g, 0, none⟩) ls.length c) ls.length vs := row_same h.outer fun b hb _ hl => by
    obtain rfl : g = b := by simpa [Value.ownBlock] using hb
    exact hsame g hfx hl
  have hst := ho1.stored u x'
  have hc := World.ownsRow.cells ho1 (g := g) rfl u x hx
  have ea : ((⟨g, 0, none⟩ : Addr).add u) = ⟨g, u, none⟩ := by
    by_cases h0 : u = 0 <;> simp [Addr.add, h0]
  rw [ea] at hc
  have hng : x'.ownBlock ≠ some g := by
    rcases hat with e | e
    · rw [e]; exact hfx
    · rw [e]
      intro e2
      have := Option.some.inj e2
      omega
  have hset : ∀ b, b ≠ g → (w1.setCell ⟨g, u, none⟩ x').heap[b]? = w1.heap[b]? := fun b hb => heap_setCell_other w1 ⟨g, u, none⟩ b x' hb
  have hxB : ∀ b, x.ownBlock = some b → B ≤ b := fun b hb => (World.ownsRow.lt (h.row u x l hx hl) b hb).1
  refine ⟨hc, ho1.frozenAt u, ⟨by simp [h.len], by rw [List.length_set]; exact hst.1, fun a y k ha hk => ?_, fun a a' y y' b hne ha ha' hb => ?_, fun a y b ha hb => ?_⟩, ?_⟩
  · rw [List.getElem?_set] at ha hk
    by_cases e : u = a
    · subst e
      rw [if_pos rfl, if_pos hul] at ha
      rw [if_pos rfl, if_pos (by rw [← h.len]; exact hul)] at hk
      cases ha
      cases hk
      exact hown.same fun b hb _ => hset b (fun e => hng (by rw [hb, e]))
    · rw [if_neg e] at ha hk
      refine (h.row a y k ha hk).same fun b hb hl => ?_
      rw [hset b (fun e => h.far a y b ha hb (by rw [e]; rfl)), hsame b (fun e2 => h.apart u a x y b e hx ha e2 hb) hl]
  · rw [List.getElem?_set] at ha ha'
    have hnew : ∀ (z : Nat) (q : Value) (b : Nat), u ≠ z → vs[z]? = some q → x'.ownBlock = some b → q.ownBlock ≠ some b := fun z q b hz hq hb => by
      rcases hat with e2 | e2
      · rw [e2] at hb
        exact h.apart u z x q b hz hx hq hb
      · rw [e2] at hb
        have hbs := Option.some.inj hb
        intro hc
        obtain ⟨k, hk⟩ := h.at hq
        have := (World.ownsRow.lt (h.row z q k hq hk) b hc).2
        omega
    by_cases e : u = a
    · subst e
      rw [if_pos rfl, if_pos hul] at ha
      cases ha
      rw [if_neg hne] at ha'
      exact hnew a' y' b hne ha' hb
    · rw [if_neg e] at ha
      by_cases e' : u = a'
      · subst e'
        rw [if_pos rfl, if_pos hul] at ha'
        cases ha'
        intro hc
        exact hnew a y b (Ne.symm hne) ha hc hb
      · rw [if_neg e'] at ha'
        exact h.apart a a' y y' b hne ha ha' hb
  · rw [List.getElem?_set] at ha
    by_cases e : u = a
    · subst e
      rw [if_pos rfl, if_pos hul] at ha
      cases ha
      intro hc
      obtain rfl : g = b := by simpa [Value.ownBlock] using hc
      exact hng hb
    · rw [if_neg e] at ha
      exact h.far a y b ha hb
  · refine ⟨hgrow.os, hgrow.tape, hgrow.output, by simpa using hsz, fun k hk => ?_⟩
    rw [hset k (by omega), hsame k (fun e => by have := hxB k e; omega) (by omega)]
end

end Go.Proofs.YtfjgmbimapkabaaDoor
