import Derived.Test.YtjlfdkeklilafabMg02
import Derived.Maps.AppendAt
import Derived.Test.YtjlfdkeklilafabMg04
import Derived.Sort.Grow
/-
  A list of lists of ints, each in memory of its own.
-/
namespace Go.Proofs.Ytjlfdkeklilafab
open Go.RowKit

theorem Try.infoRow : (Try.prog.info? 39).map (fun i => (i.zero, i.size, i.bytes)) = some (some (.slice none 0 0), 1, 24) := by kernel_rfl

theorem own_succ {W : World} {base : Nat} {e : TypeId} {size : Nat} {v : Value} {k : Nat} {xs : List Value} (h : W.ownsRow base e size v (k + 1) xs) : ∃ g cap, v = .slice (some ⟨g, 0, none⟩) (k + 1) cap := by
  rcases h.2 with ⟨_, h0⟩ | ⟨g, cap, _, rfl, _⟩
  · omega
  · exact ⟨g, cap, rfl⟩

/-- v is a list of the slices vs, in memory of its own laid since block B; each of them a list of its own, ls. -/
structure RowsZ (w : World) (B : Nat) (v : Value) (vs : List Value) (ls : List (List Int)) : Prop where
  len : vs.length = ls.length
  outer : w.ownsRow B 39 1 v ls.length vs
  row : ∀ (u : Nat) (x : Value) (l : List Int), vs[u]? = some x → ls[u]? = some l → OwnZ w B x l
  apart : ∀ (u u' : Nat) (x x' : Value) (b : Nat), u ≠ u' → vs[u]? = some x → vs[u']? = some x' → x.ownBlock = some b → x'.ownBlock ≠ some b
  far : ∀ (u : Nat) (x : Value) (b : Nat), vs[u]? = some x → x.ownBlock = some b → v.ownBlock ≠ some b

section
variable {w w' : World} {B : Nat} {v : Value} {vs : List Value} {ls : List (List Int)}
theorem RowsZ.at (h : RowsZ w B v vs ls) {u : Nat} {x : Value} (hx : vs[u]? = some x) : ∃ l, ls[u]? = some l := ⟨_, List.getElem?_eq_getElem (by rw [← h.len]; exact (List.getElem?_eq_some_iff.1 hx).1)⟩
theorem RowsZ.at' (h : RowsZ w B v vs ls) {u : Nat} {l : List Int} (hl : ls[u]? = some l) : ∃ x, vs[u]? = some x := ⟨_, List.getElem?_eq_getElem (by rw [h.len]; exact (List.getElem?_eq_some_iff.1 hl).1)⟩
theorem row_same {e : TypeId} {s n : Nat} {xs : List Value} (h : w.ownsRow B e s v n xs) (hb : ∀ g, v.ownBlock = some g → B ≤ g → g < w.heap.size → w'.heap[g]? = w.heap[g]?) : w'.ownsRow B e s v n xs := by
  refine ⟨h.1, ?_⟩
  rcases h.2 with h | ⟨g, cap, cur, e1, hgB, hh, hr⟩
  · exact .inl h
  · exact .inr ⟨g, cap, cur, e1, hgB, (hb g (by rw [e1]; rfl) hgB (lt_of_block hh)).trans hh, hr⟩
theorem RowsZ.same (h : RowsZ w B v vs ls) (hb : ∀ g, B ≤ g → g < w.heap.size → w'.heap[g]? = w.heap[g]?) : RowsZ w' B v vs ls :=
  ⟨h.len, row_same h.outer fun g _ h1 h2 => hb g h1 h2, fun u x l hx hl => row_same (h.row u x l hx hl) fun g _ h1 h2 => hb g h1 h2, h.apart, h.far⟩
theorem RowsZ.later (h : RowsZ w B v vs ls) (hb : Below w.heap.size w w') : RowsZ w' B v vs ls := h.same fun g _ hg => hb.block g hg
theorem RowsZ.nil (w : World) (B : Nat) : RowsZ w B (.slice none 0 0) [] [] := ⟨rfl, World.ownsRow_nil _ _ _ _, fun u x l hx => by simp at hx, fun u u' x x' b _ hx => by simp at hx, fun u x b hx => by simp at hx⟩

/-- What lies in the blocks of the rows that a step leaves alone. -/
theorem RowsZ.lower {B' : Nat} (h : RowsZ w B v vs ls) (hB : B' ≤ B) : RowsZ w B' v vs ls := by
  refine ⟨h.len, ⟨h.outer.1, ?_⟩, fun u x l hx hl => (h.row u x l hx hl).lower hB, h.apart, h.far⟩
  rcases h.outer.2 with h | ⟨g, cap, cur, e1, hgB, hr⟩
  · exact .inl h
  · exact .inr ⟨g, cap, cur, e1, Nat.le_trans hB hgB, hr⟩

/-- One list more at the end: x, a list l of its own that is none of those that are there. W: the world in which the row is appended to (x has been put into a cell of its own there). -/
theorem RowsZ.grow {W w1 : World} {x v' : Value} {l : List Int} (h : RowsZ W B v vs ls) (hx : OwnZ W B x l) (hx1 : ∀ (u : Nat) (y : Value) (b : Nat), vs[u]? = some y → y.ownBlock = some b → x.ownBlock ≠ some b) (hx2 : ∀ b, v.ownBlock = some b → x.ownBlock ≠ some b)
    {tmp : Obj} (hown : w1.ownsRow B 39 1 v' (ls.length + 1) (vs ++ [x])) (hgrow : (W.alloc tmp).grownBy w1 v.ownBlock) (hat : v'.ownBlock = v.ownBlock ∨ v'.ownBlock = some (W.heap.size + 1)) :
    RowsZ w1 B v' (vs ++ [x]) (ls ++ [l]) := by
  have hsame : ∀ g, v.ownBlock ≠ some g → g < W.heap.size → w1.heap[g]? = W.heap[g]? := fun g hne hg => by
    rw [hgrow.block g (by rw [World.size_alloc]; omega) (fun e => hne e.symm)]
    exact Below.heap_alloc W tmp g hg
  have hold : ∀ u y k, vs[u]? = some y → ls[u]? = some k → OwnZ w1 B y k := fun u y k hy hk => (h.row u y k hy hk).same fun g hg hl => hsame g (h.far u y g hy hg) hl
  have hxx : OwnZ w1 B x l := hx.same fun g hg hl => hsame g (fun e => hx2 g e hg) hl
  have hlt : ∀ y k b, OwnZ W B y k → y.ownBlock = some b → b < W.heap.size := fun y k b ho hb => (World.ownsRow.lt ho b hb).2
  have hlast : ∀ u y, (vs ++ [x])[u]? = some y → (u < vs.length ∧ vs[u]? = some y) ∨ (u = vs.length ∧ y = x) := fun u y hy => by
    by_cases hu : u < vs.length
    · rw [List.getElem?_append_left hu] at hy
      exact .inl ⟨hu, hy⟩
    · rw [List.getElem?_append_right (by omega)] at hy
      have hl := (List.getElem?_eq_some_iff.1 hy).1
      have e : u - vs.length = 0 := by simp at hl; omega
      rw [e] at hy
      exact .inr ⟨by omega, (Option.some.inj hy).symm⟩
  refine ⟨by simp [h.len], by rw [List.length_append]; exact hown, fun u y k hy hk => ?_, fun u u' y y' b hne hy hy' hb => ?_, fun u y b hy hb => ?_⟩
  · rcases hlast u y hy with ⟨hu, h1⟩ | ⟨hu, rfl⟩
    · rw [List.getElem?_append_left (by rw [← h.len]; exact hu)] at hk
      exact hold u y k h1 hk
    · rw [hu, h.len, List.getElem?_append_right (Nat.le_refl _), Nat.sub_self] at hk
      obtain rfl := Option.some.inj hk
      exact hxx
  · rcases hlast u y hy with ⟨hu, h1⟩ | ⟨hu, rfl⟩ <;> rcases hlast u' y' hy' with ⟨hu', h2⟩ | ⟨hu', rfl⟩
    · exact h.apart u u' y y' b hne h1 h2 hb
    · exact hx1 u y b h1 hb
    · intro hc
      exact hx1 u' y' b h2 hc hb
    · omega
  · intro hc
    rcases hat with e | e
    · rw [e] at hc
      rcases hlast u y hy with ⟨hu, h1⟩ | ⟨hu, rfl⟩
      · exact h.far u y b h1 hb hc
      · exact hx2 b hc hb
    · rw [e] at hc
      have hbs := Option.some.inj hc
      rcases hlast u y hy with ⟨hu, h1⟩ | ⟨hu, rfl⟩
      · obtain ⟨k, hk⟩ := h.at h1
        have := hlt y k b (h.row u y k h1 hk) hb
        omega
      · have := hlt y l b hx hb
        omega

/-- List u is appended to. -/
theorem RowsZ.put {W w1 : World} {u g c : Nat} {x x' : Value} {l l' : List Int} (h : RowsZ W B (.slice (some ⟨g, 0, none⟩) ls.length c) vs ls) (hx : vs[u]? = some x) (hl : ls[u]? = some l)
    {tmp : Obj} (hown : OwnZ w1 B x' l') (hgrow : (W.alloc tmp).grownBy w1 x.ownBlock) (hat : x'.ownBlock = x.ownBlock ∨ x'.ownBlock = some (W.heap.size + 1)) :
    w1.cell? ⟨g, u, none⟩ = some x ∧ w1.frozen? ⟨g, u, none⟩ = false ∧ RowsZ (w1.setCell ⟨g, u, none⟩ x') B (.slice (some ⟨g, 0, none⟩) ls.length c) (vs.set u x') (ls.set u l') ∧ Below B W (w1.setCell ⟨g, u, none⟩ x') := by
  have hul := (List.getElem?_eq_some_iff.1 hx).1
  have hfx : x.ownBlock ≠ some g := fun e => h.far u x g hx e rfl
  obtain ⟨hgB, hgl⟩ := World.ownsRow.lt h.outer g rfl
  have hsz : W.heap.size ≤ w1.heap.size := by
    have := hgrow.size
    rw [World.size_alloc] at this
    omega
  have hsame : ∀ b, x.ownBlock ≠ some b → b < W.heap.size → w1.heap[b]? = W.heap[b]? := fun b hne hb => by
    rw [hgrow.block b (by rw [World.size_alloc]; omega) (fun e => hne e.symm)]
    exact Below.heap_alloc W tmp b hb
  have ho1 : w1.ownsRow B 39 1 (.slice (some ⟨g, 0, none⟩) ls.length c) ls.length vs := row_same h.outer fun b hb _ hl => by
    obtain rfl : g = b := by simpa [Value.ownBlock] using hb
    exact hsame g hfx hl
  have hst := ho1.stored u x'
  have hc := World.ownsRow.cells ho1 (g := g) rfl u x hx
  have ea : ((⟨g, 0, none⟩ : Addr).add u) = ⟨g, u, none⟩ := by
    by_cases h0 : u = 0 <;> simp [Addr.add, h0]
  rw [ea] at hc
  have hng : x'.ownBlock ≠ some g := by
    rcases hat with e | e
    · rw [e]; exact hfx
    · rw [e]
      intro e2
      have := Option.some.inj e2
      omega
  have hset : ∀ b, b ≠ g → (w1.setCell ⟨g, u, none⟩ x').heap[b]? = w1.heap[b]? := fun b hb => heap_setCell_other w1 ⟨g, u, none⟩ b x' hb
  have hxB : ∀ b, x.ownBlock = some b → B ≤ b := fun b hb => (World.ownsRow.lt (h.row u x l hx hl) b hb).1
  refine ⟨hc, ho1.frozenAt u, ⟨by simp [h.len], by rw [List.length_set]; exact hst.1, fun a y k ha hk => ?_, fun a a' y y' b hne ha ha' hb => ?_, fun a y b ha hb => ?_⟩, ?_⟩
  · rw [List.getElem?_set] at ha hk
    by_cases e : u = a
    · subst e
      rw [if_pos rfl, if_pos hul] at ha
      rw [if_pos rfl, if_pos (by rw [← h.len]; exact hul)] at hk
      cases ha
      cases hk
      exact hown.same fun b hb _ => hset b (fun e => hng (by rw [hb, e]))
    · rw [if_neg e] at ha hk
      refine (h.row a y k ha hk).same fun b hb hl => ?_
      rw [hset b (fun e => h.far a y b ha hb (by rw [e]; rfl)), hsame b (fun e2 => h.apart u a x y b e hx ha e2 hb) hl]
  · rw [List.getElem?_set] at ha ha'
    have hnew : ∀ (z : Nat) (q : Value) (b : Nat), u ≠ z → vs[z]? = some q → x'.ownBlock = some b → q.ownBlock ≠ some b := fun z q b hz hq hb => by
      rcases hat with e2 | e2
      · rw [e2] at hb
        exact h.apart u z x q b hz hx hq hb
      · rw [e2] at hb
        have hbs := Option.some.inj hb
        intro hc
        obtain ⟨k, hk⟩ := h.at hq
        have := (World.ownsRow.lt (h.row z q k hq hk) b hc).2
        omega
    by_cases e : u = a
    · subst e
      rw [if_pos rfl, if_pos hul] at ha
      cases ha
      rw [if_neg hne] at ha'
      exact hnew a' y' b hne ha' hb
    · rw [if_neg e] at ha
      by_cases e' : u = a'
      · subst e'
        rw [if_pos rfl, if_pos hul] at ha'
        cases ha'
        intro hc
        exact hnew a y b (Ne.symm hne) ha hc hb
      · rw [if_neg e'] at ha'
        exact h.apart a a' y y' b hne ha ha' hb
  · rw [List.getElem?_set] at ha
    by_cases e : u = a
    · subst e
      rw [if_pos rfl, if_pos hul] at ha
      cases ha
      intro hc
      obtain rfl : g = b := by simpa [Value.ownBlock] using hc
      exact hng hb
    · rw [if_neg e] at ha
      exact h.far a y b ha hb
  · refine ⟨hgrow.os, hgrow.tape, hgrow.output, by simpa using hsz, fun k hk => ?_⟩
    rw [hset k (by omega), hsame k (fun e => by have := hxB k e; omega) (by omega)]
end

end Go.Proofs.Ytjlfdkeklilafab

/-
  The shape of a list of lists.
-/
namespace Go.Proofs.Ytjlfdkeklilafab
open Go.RowKit

theorem row_form {w : World} {B : Nat} {v : Value} {vs : List Value} {ls : List (List Int)} (h : RowsZ w B v vs ls) (hn : 0 < ls.length) : ∃ g c, v = .slice (some ⟨g, 0, none⟩) ls.length c := by
  rcases h.outer.2 with ⟨rfl, h0⟩ | ⟨g, cap, cur, rfl, _⟩
  · omega
  · exact ⟨g, cap, rfl⟩
theorem row_shape {w : World} {B : Nat} {v : Value} {vs : List Value} {ls : List (List Int)} (h : RowsZ w B v vs ls) : ∃ ao c, v = .slice ao ls.length c := by
  rcases h.outer.2 with ⟨rfl, h0⟩ | ⟨g, cap, cur, rfl, _⟩
  · exact ⟨none, 0, by rw [h0]⟩
  · exact ⟨_, cap, rfl⟩

end Go.Proofs.Ytjlfdkeklilafab

/-
  A list of lists that was made, and into which lists are laid.
-/
namespace Go.Proofs.Ytjlfdkeklilafab
open Go.RowKit

section
variable {W W1 : World} {B : Nat} {vs : List Value} {ls : List (List Int)}
/-- A list that a call has made is laid at u. -/
theorem RowsZ.store {u g c K : Nat} {x' : Value} {l' : List Int} (h : RowsZ W B (.slice (some ⟨g, 0, none⟩) K c) vs ls) (hls : ls.length = K) (hu : u < K) (hb : Below W.heap.size W W1) (hown : OwnZ W1 W.heap.size x' l') (hB : B ≤ W.heap.size) :
    (∃ y, W1.cell? ⟨g, u, none⟩ = some y) ∧ W1.frozen? ⟨g, u, none⟩ = false ∧ RowsZ (W1.setCell ⟨g, u, none⟩ x') B (.slice (some ⟨g, 0, none⟩) K c) (vs.set u x') (ls.set u l') ∧ Below B W (W1.setCell ⟨g, u, none⟩ x') := by
  subst hls
  have h1 : RowsZ W1 B (.slice (some ⟨g, 0, none⟩) ls.length c) vs ls := h.later hb
  have hul : u < vs.length := by rw [h.len]; exact hu
  obtain ⟨hgB, hgl⟩ := World.ownsRow.lt h.outer g rfl
  have hst := h1.outer.stored u x'
  have hc := World.ownsRow.cells h1.outer (g := g) rfl u _ (List.getElem?_eq_getElem hul)
  have ea : ((⟨g, 0, none⟩ : Addr).add u) = ⟨g, u, none⟩ := by
    by_cases h0 : u = 0 <;> simp [Addr.add, h0]
  rw [ea] at hc
  have hat : ∀ b, x'.ownBlock = some b → W.heap.size ≤ b := fun b hb => (World.ownsRow.lt hown b hb).1
  have hset : ∀ b, b ≠ g → (W1.setCell ⟨g, u, none⟩ x').heap[b]? = W1.heap[b]? := fun b hb => heap_setCell_other W1 ⟨g, u, none⟩ b x' hb
  have hold : ∀ (a : Nat) (y : Value) (b : Nat), vs[a]? = some y → y.ownBlock = some b → b < W.heap.size := fun a (y : Value) b hy hb => by
    obtain ⟨k, hk⟩ := h.at hy
    exact (World.ownsRow.lt (h.row a y k hy hk) b hb).2
  refine ⟨⟨_, hc⟩, h1.outer.frozenAt u, ⟨by simp [h.len], by rw [List.length_set]; exact hst.1, fun a y k ha hk => ?_, fun a a' y y' b hne ha ha' hb => ?_, fun a y b ha hb => ?_⟩, ?_⟩
  · rw [List.getElem?_set] at ha hk
    by_cases e : u = a
    · subst e
      rw [if_pos rfl, if_pos hul] at ha
      rw [if_pos rfl, if_pos hu] at hk
      cases ha
      cases hk
      refine (hown.lower hB).same fun b hb _ => hset b (fun e => ?_)
      have := hat b hb
      omega
    · rw [if_neg e] at ha hk
      exact (h1.row a y k ha hk).same fun b hb hl => hset b (fun e => h.far a y b ha hb (by rw [e]; rfl))
  · rw [List.getElem?_set] at ha ha'
    by_cases e : u = a
    · subst e
      rw [if_pos rfl, if_pos hul] at ha
      cases ha
      rw [if_neg hne] at ha'
      intro hc
      have := hold a' y' b ha' hc
      have := hat b hb
      omega
    · rw [if_neg e] at ha
      by_cases e' : u = a'
      · subst e'
        rw [if_pos rfl, if_pos hul] at ha'
        cases ha'
        intro hc
        have := hold a y b ha hb
        have := hat b hc
        omega
      · rw [if_neg e'] at ha'
        exact h.apart a a' y y' b hne ha ha' hb
  · rw [List.getElem?_set] at ha
    by_cases e : u = a
    · subst e
      rw [if_pos rfl, if_pos hul] at ha
      cases ha
      intro hc
      obtain rfl : g = b := by simpa [Value.ownBlock] using hc
      have := hat g hb
      omega
    · rw [if_neg e] at ha
      exact h.far a y b ha hb
  · exact (hb.mono hB).setCell (p := ⟨g, u, none⟩) hgB x'

/-- A list that was made since block B' is laid at u, where all lists that are there lie below B'. -/
theorem RowsZ.store2 {u g c K B' : Nat} {x' : Value} {l' : List Int} (h : RowsZ W1 B (.slice (some ⟨g, 0, none⟩) K c) vs ls) (hls : ls.length = K) (hu : u < K) (hg' : g < B') (hlow : ∀ (a : Nat) (y : Value) (b : Nat), vs[a]? = some y → y.ownBlock = some b → b < B') (hown : OwnZ W1 B' x' l') (hB : B ≤ B') :
    (∃ y, W1.cell? ⟨g, u, none⟩ = some y) ∧ W1.frozen? ⟨g, u, none⟩ = false ∧ RowsZ (W1.setCell ⟨g, u, none⟩ x') B (.slice (some ⟨g, 0, none⟩) K c) (vs.set u x') (ls.set u l') ∧ Below B W1 (W1.setCell ⟨g, u, none⟩ x') := by
  subst hls
  have h1 := h
  have hul : u < vs.length := by rw [h.len]; exact hu
  obtain ⟨hgB, hgl⟩ := World.ownsRow.lt h.outer g rfl
  have hst := h1.outer.stored u x'
  have hc := World.ownsRow.cells h1.outer (g := g) rfl u _ (List.getElem?_eq_getElem hul)
  have ea : ((⟨g, 0, none⟩ : Addr).add u) = ⟨g, u, none⟩ := by
    by_cases h0 : u = 0 <;> simp [Addr.add, h0]
  rw [ea] at hc
  have hat : ∀ b, x'.ownBlock = some b → B' ≤ b := fun b hb => (World.ownsRow.lt hown b hb).1
  have hset : ∀ b, b ≠ g → (W1.setCell ⟨g, u, none⟩ x').heap[b]? = W1.heap[b]? := fun b hb => heap_setCell_other W1 ⟨g, u, none⟩ b x' hb
  have hold := hlow
  refine ⟨⟨_, hc⟩, h1.outer.frozenAt u, ⟨by simp [h.len], by rw [List.length_set]; exact hst.1, fun a y k ha hk => ?_, fun a a' y y' b hne ha ha' hb => ?_, fun a y b ha hb => ?_⟩, ?_⟩
  · rw [List.getElem?_set] at ha hk
    by_cases e : u = a
    · subst e
      rw [if_pos rfl, if_pos hul] at ha
      rw [if_pos rfl, if_pos hu] at hk
      cases ha
      cases hk
      refine (hown.lower hB).same fun b hb _ => hset b (fun e => ?_)
      have := hat b hb
      omega
    · rw [if_neg e] at ha hk
      exact (h1.row a y k ha hk).same fun b hb hl => hset b (fun e => h.far a y b ha hb (by rw [e]; rfl))
  · rw [List.getElem?_set] at ha ha'
    by_cases e : u = a
    · subst e
      rw [if_pos rfl, if_pos hul] at ha
      cases ha
      rw [if_neg hne] at ha'
      intro hc
      have := hold a' y' b ha' hc
      have := hat b hb
      omega
    · rw [if_neg e] at ha
      by_cases e' : u = a'
      · subst e'
        rw [if_pos rfl, if_pos hul] at ha'
        cases ha'
        intro hc
        have := hold a y b ha hb
        have := hat b hc
        omega
      · rw [if_neg e'] at ha'
        exact h.apart a a' y y' b hne ha ha' hb
  · rw [List.getElem?_set] at ha
    by_cases e : u = a
    · subst e
      rw [if_pos rfl, if_pos hul] at ha
      cases ha
      intro hc
      obtain rfl : g = b := by simpa [Value.ownBlock] using hc
      have := hat g hb
      omega
    · rw [if_neg e] at ha
      exact h.far a y b ha hb
  · exact (Below.refl B W1).setCell (p := ⟨g, u, none⟩) hgB x'

/-- A list of n lists that was made. -/
theorem RowsZ.made {g n : Nat} (h : W.ownsRow B 39 1 (.slice (some ⟨g, 0, none⟩) n n) n (madeCells #[.slice none 0 0] n).toList) : RowsZ W B (.slice (some ⟨g, 0, none⟩) n n) (List.replicate n (.slice none 0 0)) (List.replicate n []) := by
  rw [toList_madeCells_one] at h
  refine ⟨by simp, by rw [List.length_replicate]; exact h, fun u x l hx hl => ?_, fun u u' x x' b _ hx _ hb => ?_, fun u x b hx hb => ?_⟩
  · have hx := List.eq_of_mem_replicate (List.mem_of_getElem? hx)
    have hl := List.eq_of_mem_replicate (List.mem_of_getElem? hl)
    subst hx
    subst hl
    exact OwnZ.nil _ _
  · have hx := List.eq_of_mem_replicate (List.mem_of_getElem? hx)
    subst hx
    cases hb
  · have hx := List.eq_of_mem_replicate (List.mem_of_getElem? hx)
    subst hx
    cases hb

/-- Lists of one's own as lists wherever they lie. -/
theorem RowsZ.rws {w : World} {v : Value} (h : RowsZ w B v vs ls) (hl : ∀ l ∈ ls, l.length ≤ 17592186043904) : ∃ xo xc, v = .slice xo ls.length xc ∧ RwsAt w xo ls ∧ ls.length ≤ xc := by
  obtain ⟨ao, c, e⟩ := row_shape h
  subst e
  refine ⟨ao, c, rfl, fun u l hu => ?_, ?_⟩
  · obtain ⟨x, hx⟩ := h.at' hu
    have hlt : 0 < ls.length := by have := (List.getElem?_eq_some_iff.1 hu).1; omega
    obtain ⟨g, c', e⟩ := row_form h hlt
    cases e
    have hc := World.ownsRow.cells h.outer (g := g) rfl u x hx
    have ea : ((⟨g, 0, none⟩ : Addr).add u) = ⟨g, 0 + u, none⟩ := by
      by_cases h0 : u = 0 <;> simp [Addr.add, h0]
    rw [ea] at hc
    have hrow := h.row u x l hx hu
    obtain ⟨A, C, rfl, hL, -⟩ := hrow.lst
    refine ⟨g, 0, A, C, rfl, hc, hL, hl l (List.mem_of_getElem? hu), ?_⟩
    rcases hrow.2 with ⟨h', h0⟩ | ⟨g', cap, cur, h', _, _, hlc, hm, _⟩
    · obtain ⟨-, -, hc0⟩ := Value.slice.inj h'
      exact ⟨by omega, by omega⟩
    · cases h'; exact ⟨hlc, by unfold maxLen at hm; omega⟩
  · rcases h.outer.2 with ⟨h', h0⟩ | ⟨g', cap, cur, h', _, _, hlc, _⟩
    · rw [h0]; exact Nat.zero_le _
    · cases h'; exact hlc
end

namespace Ro
/-- The first k lists are laid. -/
def fill (f : List Int → List Int) (ls : List (List Int)) (k : Nat) : List (List Int) := (ls.take k).map f ++ List.replicate (ls.length - k) []
theorem fill_len (f : List Int → List Int) (ls : List (List Int)) {k : Nat} (h : k ≤ ls.length) : (fill f ls k).length = ls.length := by simp [fill]; omega
theorem fill_zero (f : List Int → List Int) (ls : List (List Int)) : fill f ls 0 = List.replicate ls.length [] := by simp [fill]
theorem fill_all (f : List Int → List Int) (ls : List (List Int)) : fill f ls ls.length = ls.map f := by simp [fill]
theorem fill_set {f : List Int → List Int} {ls : List (List Int)} {k : Nat} {l : List Int} (h : ls[k]? = some l) : (fill f ls k).set k (f l) = fill f ls (k + 1) := by
  have hk := (List.getElem?_eq_some_iff.1 h).1
  refine List.ext_getElem? fun j => ?_
  unfold fill
  rw [List.getElem?_set, List.getElem?_append, List.getElem?_append]
  simp only [List.length_map, List.length_take, List.length_append, List.length_replicate, List.getElem?_map, List.getElem?_take, List.getElem?_replicate]
  have m1 : min k ls.length = k := by omega
  have m2 : min (k + 1) ls.length = k + 1 := by omega
  rw [m1, m2]
  by_cases e : k = j
  · subst e
    rw [if_pos rfl, if_pos (by omega), if_pos (by omega), if_pos (by omega), h]
    rfl
  · rw [if_neg e]
    by_cases h1 : j < k
    · rw [if_pos h1, if_pos h1, if_pos (by omega : j < k + 1), if_pos (by omega : j < k + 1)]
    · rw [if_neg h1, if_neg (by omega : ¬ j < k + 1)]
      have e1 : (j - k < ls.length - k) ↔ (j - (k + 1) < ls.length - (k + 1)) := by omega
      by_cases h2 : j - k < ls.length - k
      · rw [if_pos h2, if_pos (e1.1 h2)]
      · rw [if_neg h2, if_neg (fun h3 => h2 (e1.2 h3))]
end Ro

end Go.Proofs.Ytjlfdkeklilafab

/-
  'append(v, z)' of a list of one's own.
-/
namespace Go.Proofs.Ytjlfdkeklilafab
open Go.RowKit Go.Sort

/-- 'append(v, z)', v a list of one's own. -/
theorem wpList_push {ops : Array Oper} {rest : List Oper} {o : Oper} {a : Act} {Q : Exit → Act → World → Prop} (hgd : o.guard = none) (s x : Operand)
    (ho : o.op = .call { callee := .builtin .append, args := #[s, x], argTypes := #[39, 39] }) (W : World) (B : Nat) (v : Value) (l : List Int) (z : Int) (hown : OwnZ W B v l)
    (hB : B ≤ W.heap.size) (hl : l.length ≤ 17592186044000) (hs : a.eval s = v) (hx : a.eval x = .slice (some ⟨W.heap.size, 0, none⟩) 1 1)
    (h : ∀ v' w', OwnZ w' B v' (l ++ [z]) → (W.alloc (.cells #[.int .i64 z] 3)).grownBy w' v.ownBlock → (v'.ownBlock = v.ownBlock ∨ v'.ownBlock = some (W.heap.size + 1)) → Below B W w' → wpList Try.prog ops Q rest (a.put o.dst v') w') :
    wpList Try.prog ops Q (o :: rest) a (W.alloc (.cells #[.int .i64 z] 3)) := by
  obtain ⟨i0, hi, hz0, hz1, hz2⟩ := info_parts Try.infoNum
  have hb0 : Below B W (W.alloc (.cells #[.int .i64 z] 3)) := (Below.refl _ _).alloc hB _
  refine wpList_append_own_at _ hgd s x 39 ho B 3 i0 (.int .i64 0) 1 8 Try.underlying39 hi hz0 hz1 hz2 rfl (by decide) _ _ _ hs (World.ownsRow.alloc hown _) ⟨W.heap.size, 0, none⟩ 1 1 [.int .i64 z] hx rfl (cell_one_new _ _ _) (by simp [Value.oneCell']) (by unfold maxLen; omega) (by omega) (by simp; omega) ?_
  intro v' w' hown' hg _ hat
  have ho' : OwnZ w' B v' (l ++ [z]) := by
    unfold OwnZ
    rw [List.length_append, List.map_append]
    exact hown'
  have hoB : ∀ b, v.ownBlock = some b → B ≤ b := fun b hb => (World.ownsRow.lt hown b hb).1
  refine h v' w' ho' hg (by simpa using hat) (hb0.grown hg (by simp; omega) hoB)

end Go.Proofs.Ytjlfdkeklilafab

/-
  One list more behind lists of one's own.
-/
namespace Go.Proofs.Ytjlfdkeklilafab
open Go.RowKit

/-- A call answers lists of its own. -/
def RowsPost (ls : List (List Int)) (w : World) (e : Ending) (w' : World) : Prop := ∃ v vs, e = .returned v ∧ RowsZ w' w.heap.size v vs ls ∧ Below w.heap.size w w'

/-- 'append(v, x)', v lists of one's own since block B (told in world W0), x a list that a call has made since. -/
theorem wpList_pushRow {ops : Array Oper} {rest : List Oper} {o : Oper} {a : Act} {Q : Exit → Act → World → Prop} (hgd : o.guard = none) (s x : Operand) (T : TypeId) (hT : Try.prog.underlying T = some (.slice 39))
    (ho : o.op = .call { callee := .builtin .append, args := #[s, x], argTypes := #[T, T] }) (W0 W : World) (B : Nat) (v : Value) (vs : List Value) (ls : List (List Int)) (y : Value) (l : List Int) (hr : RowsZ W0 B v vs ls) (hb : Below W0.heap.size W0 W)
    (hy : OwnZ W W0.heap.size y l) (hB : B ≤ W0.heap.size) (hl : ls.length ≤ 5864062014804) (hs : a.eval s = v) (hx : a.eval x = .slice (some ⟨W.heap.size, 0, none⟩) 1 1)
    (h : ∀ v' w', RowsZ w' B v' (vs ++ [y]) (ls ++ [l]) → Below B W0 w' → wpList Try.prog ops Q rest (a.put o.dst v') w') :
    wpList Try.prog ops Q (o :: rest) a (W.alloc (.cells #[y] 39)) := by
  obtain ⟨i0, hi, hz0, hz1, hz2⟩ := info_parts Try.infoRow
  have hW := hb.size
  have hr1 : RowsZ W B v vs ls := hr.later hb
  have hb0 : Below B W (W.alloc (.cells #[y] 39)) := (Below.refl _ _).alloc (by omega) _
  have hyv : ∃ ao c, y = .slice ao l.length c := by
    obtain ⟨ao, c, e, -⟩ := hy.form
    exact ⟨ao, c, e⟩
  obtain ⟨yo, yc, rfl⟩ := hyv
  refine wpList_append_own_at _ hgd s x T ho B 39 i0 (.slice none 0 0) 1 24 hT hi hz0 hz1 hz2 rfl (by decide) _ _ _ hs (World.ownsRow.alloc hr1.outer _) ⟨W.heap.size, 0, none⟩ 1 1 [.slice yo l.length yc] hx rfl (cell_one_new _ _ _) (by simp [Value.oneCell']) (by unfold maxLen; omega) (by omega) (by simp; omega) ?_
  intro v' w' hown' hg _ hat
  have hnew : ∀ b, Value.ownBlock (.slice yo l.length yc) = some b → W0.heap.size ≤ b := fun b hb => (World.ownsRow.lt hy b hb).1
  have hRZ : RowsZ w' B v' (vs ++ [.slice yo l.length yc]) (ls ++ [l]) := by
    refine hr1.grow (hy.lower hB) (fun u z b hz hzb e => ?_) (fun b hvb e => ?_) (tmp := .cells #[.slice yo l.length yc] 39) hown' hg ?_
    · obtain ⟨k, hk⟩ := hr.at hz
      have h1 := (World.ownsRow.lt (hr.row u z k hz hk) b hzb).2
      have h2 := hnew b e
      omega
    · have h1 := (World.ownsRow.lt hr.outer b hvb).2
      have h2 := hnew b e
      omega
    · rcases hat with h1 | h1
      · exact .inl h1
      · exact .inr (by simpa using h1)
  refine h v' w' hRZ ((hb.mono hB).trans (hb0.grown hg (by simp; omega) (fun b hvb => (World.ownsRow.lt hr1.outer b hvb).1)))

end Go.Proofs.Ytjlfdkeklilafab
