import Derived.Test.YtmgoahbloppdmaaGreatMg08
import Derived.Test.YtmgoahbloppdmaaGreatMg09
import Derived.Test.YtmgoahbloppdmaaGreatMg31
import Derived.Test.YtmgoahbloppdmaaGreatMg35
import Derived.Test.YtmgoahbloppdmaaGreatMg07
/-
  Low's lists under way, in memory: a box with three lists of one's own and a list of lists.
-/
namespace Go.Proofs.YtmgoahbloppdmaaGreat
open Go.RowKit

/-- Another list is stored at u. -/
theorem RowsZ.swap {V : World} {B u g c K : Nat} {vs : List Value} {ls : List (List Int)} {x' : Value} {l' : List Int} (h : RowsZ V B (.slice (some ⟨g, 0, none⟩) K c) vs ls) (hls : ls.length = K) (hu : u < K) (hown : OwnZ V B x' l') (hx1 : ∀ b, x'.ownBlock = some b → b ≠ g ∧ ¬ inV vs b) :
    (∃ y, V.cell? ⟨g, u, none⟩ = some y) ∧ V.frozen? ⟨g, u, none⟩ = false ∧ RowsZ (V.setCell ⟨g, u, none⟩ x') B (.slice (some ⟨g, 0, none⟩) K c) (vs.set u x') (ls.set u l') := by
  subst hls
  have hul : u < vs.length := by rw [h.len]; exact hu
  have hst := h.outer.stored u x'
  have hc := World.ownsRow.cells h.outer (g := g) rfl u _ (List.getElem?_eq_getElem hul)
  have ea : ((⟨g, 0, none⟩ : Addr).add u) = ⟨g, u, none⟩ := by
    by_cases h0 : u = 0 <;> simp [Addr.add, h0]
  rw [ea] at hc
  have hset : ∀ b, b ≠ g → (V.setCell ⟨g, u, none⟩ x').heap[b]? = V.heap[b]? := fun b hb => heap_setCell_other V ⟨g, u, none⟩ b x' hb
  have hof : ∀ (a : Nat) (y : Value), (vs.set u x')[a]? = some y → (a = u ∧ y = x') ∨ (a ≠ u ∧ vs[a]? = some y) := fun a y hy => by
    rw [List.getElem?_set] at hy
    by_cases e : u = a
    · rw [if_pos e, if_pos hul] at hy
      exact .inl ⟨e.symm, (Option.some.inj hy).symm⟩
    · rw [if_neg e] at hy
      exact .inr ⟨fun h => e h.symm, hy⟩
  refine ⟨⟨_, hc⟩, h.outer.frozenAt u, ⟨by simp [h.len], by rw [List.length_set]; exact hst.1, fun a y k ha hk => ?_, fun a a' y y' b hne ha ha' hb hb' => ?_, fun a y b ha hb hb' => ?_⟩⟩
  · rcases hof a y ha with ⟨rfl, rfl⟩ | ⟨hau, hy⟩
    · rw [List.getElem?_set, if_pos rfl, if_pos hu] at hk
      cases hk
      exact hown.same fun b hb _ => hset b (hx1 b hb).1
    · rw [List.getElem?_set, if_neg (fun e => hau e.symm)] at hk
      exact (h.row a y k hy hk).same fun b hb _ => hset b (fun e => h.far a y b hy hb (by rw [e]; rfl))
  · rcases hof a y ha with ⟨h1, rfl⟩ | ⟨h1, hy⟩
    · rcases hof a' y' ha' with ⟨h2, _⟩ | ⟨_, hy'⟩
      · omega
      · exact (hx1 b hb).2 ⟨a', y', hy', hb'⟩
    · rcases hof a' y' ha' with ⟨_, rfl⟩ | ⟨_, hy'⟩
      · exact (hx1 b hb').2 ⟨a, y, hy, hb⟩
      · exact h.apart a a' y y' b hne hy hy' hb hb'
  · have e : g = b := Option.some.inj hb'
    rcases hof a y ha with ⟨_, rfl⟩ | ⟨_, hy⟩
    · exact (hx1 b hb).1 e.symm
    · exact h.far a y b hy hb (by rw [e]; rfl)

/-- Three lists and a list of lists, in a box at bL. -/
structure L4 (V : World) (B bL gO n : Nat) (v1 v2 v3 : Value) (A1 A2 A3 : List Int) (vs : List Value) (ls : List (List Int)) : Prop where
  box : V.heap[bL]? = some (.cells #[v1, v2, v3, .slice (some ⟨gO, 0, none⟩) n n] 31 (0, 0))
  o1 : OwnZ V B v1 A1
  o2 : OwnZ V B v2 A2
  o3 : OwnZ V B v3 A3
  rows : RowsZ V B (.slice (some ⟨gO, 0, none⟩) n n) vs ls
  lsn : ls.length = n
  a12 : ∀ b, v1.ownBlock = some b → v2.ownBlock ≠ some b
  a13 : ∀ b, v1.ownBlock = some b → v3.ownBlock ≠ some b
  a23 : ∀ b, v2.ownBlock = some b → v3.ownBlock ≠ some b
  f1 : ∀ b, v1.ownBlock = some b → b ≠ bL ∧ b ≠ gO ∧ ¬ inV vs b
  f2 : ∀ b, v2.ownBlock = some b → b ≠ bL ∧ b ≠ gO ∧ ¬ inV vs b
  f3 : ∀ b, v3.ownBlock = some b → b ≠ bL ∧ b ≠ gO ∧ ¬ inV vs b
  bl : bL ≠ gO ∧ ¬ inV vs bL ∧ B ≤ bL

/-- Block b is none of them. -/
abbrev Aw (bL gO : Nat) (v1 v2 v3 : Value) (vs : List Value) (b : Nat) : Prop := b ≠ bL ∧ b ≠ gO ∧ ¬ inV vs b ∧ v1.ownBlock ≠ some b ∧ v2.ownBlock ≠ some b ∧ v3.ownBlock ≠ some b

section
variable {V V' w1 : World} {B bL gO n : Nat} {v1 v2 v3 v' : Value} {A1 A2 A3 : List Int} {vs : List Value} {ls : List (List Int)} {o : Obj} {x : Int}

theorem L4.gl (h : L4 V B bL gO n v1 v2 v3 A1 A2 A3 vs ls) : gO < V.heap.size := (World.ownsRow.lt h.rows.outer gO rfl).2
theorem L4.inl (h : L4 V B bL gO n v1 v2 v3 A1 A2 A3 vs ls) {b : Nat} (hb : inV vs b) : b < V.heap.size := by
  obtain ⟨u, x, hx, hb⟩ := hb
  obtain ⟨l, hl⟩ := h.rows.at hx
  exact (World.ownsRow.lt (h.rows.row u x l hx hl) b hb).2

/-- Only blocks that are none of them were written. -/
theorem L4.keep (h : L4 V B bL gO n v1 v2 v3 A1 A2 A3 vs ls) (hk : ∀ b, b < V.heap.size → ¬ Aw bL gO v1 v2 v3 vs b → V'.heap[b]? = V.heap[b]?) : L4 V' B bL gO n v1 v2 v3 A1 A2 A3 vs ls :=
  ⟨(hk bL (lt_of_block h.box) (fun a => a.1 rfl)).trans h.box, h.o1.same fun b hb hl => hk b hl (fun a => a.2.2.2.1 hb), h.o2.same fun b hb hl => hk b hl (fun a => a.2.2.2.2.1 hb), h.o3.same fun b hb hl => hk b hl (fun a => a.2.2.2.2.2 hb), h.rows.kept fun b hb hl => hk b hl (fun a => hb.elim (fun e => a.2.1 (Option.some.inj e).symm) a.2.2.1), h.lsn, h.a12, h.a13, h.a23, h.f1, h.f2, h.f3, h.bl⟩
theorem L4.later (h : L4 V B bL gO n v1 v2 v3 A1 A2 A3 vs ls) (hb : Below V.heap.size V V') : L4 V' B bL gO n v1 v2 v3 A1 A2 A3 vs ls := h.keep fun b hl _ => hb.block b hl
theorem L4.grown {r : Option Nat} (h : L4 V B bL gO n v1 v2 v3 A1 A2 A3 vs ls) (hg : (V.alloc o).grownBy w1 r) (hr : ∀ b, r = some b → Aw bL gO v1 v2 v3 vs b) : L4 w1 B bL gO n v1 v2 v3 A1 A2 A3 vs ls :=
  h.keep fun b hl hn => by
    rw [hg.block b (by rw [World.size_alloc]; omega) (fun e => hn (hr b e.symm))]
    exact Below.heap_alloc V _ b hl
theorem L4.cells (h : L4 V B bL gO n v1 v2 v3 A1 A2 A3 vs ls) : V.cell? ⟨bL, 0, none⟩ = some v1 ∧ V.cell? ⟨bL, 1, none⟩ = some v2 ∧ V.cell? ⟨bL, 2, none⟩ = some v3 ∧ V.cell? ⟨bL, 3, none⟩ = some (.slice (some ⟨gO, 0, none⟩) n n) ∧ ∀ i, V.frozen? ⟨bL, i, none⟩ = false := by
  refine ⟨?_, ?_, ?_, ?_, fun i => ?_⟩ <;> simp [World.cell?, World.frozen?, h.box]

theorem L4.push1 (h : L4 V B bL gO n v1 v2 v3 A1 A2 A3 vs ls) (hown : OwnZ w1 B v' (A1 ++ [x])) (hg : (V.alloc o).grownBy w1 v1.ownBlock) (hat : v'.ownBlock = v1.ownBlock ∨ v'.ownBlock = some (V.heap.size + 1)) :
    w1.cell? ⟨bL, 0, none⟩ = some v1 ∧ w1.frozen? ⟨bL, 0, none⟩ = false ∧ L4 (w1.setCell ⟨bL, 0, none⟩ v') B bL gO n v' v2 v3 (A1 ++ [x]) A2 A3 vs ls := by
  have keep : ∀ b, b < V.heap.size → v1.ownBlock ≠ some b → w1.heap[b]? = V.heap[b]? := fun b hl hn => by
    rw [hg.block b (by rw [World.size_alloc]; omega) (fun e => hn e.symm)]
    exact Below.heap_alloc V _ b hl
  have hbl := lt_of_block h.box
  have hgl := h.gl
  have hbox : w1.heap[bL]? = some (.cells #[v1, v2, v3, .slice (some ⟨gO, 0, none⟩) n n] 31 (0, 0)) := (keep bL hbl (fun e => (h.f1 bL e).1 rfl)).trans h.box
  have hset : ∀ b, b ≠ bL → (w1.setCell ⟨bL, 0, none⟩ v').heap[b]? = w1.heap[b]? := fun b hb => heap_setCell_other w1 ⟨bL, 0, none⟩ b v' hb
  have fnew : ∀ b, v'.ownBlock = some b → (v1.ownBlock = some b) ∨ b = V.heap.size + 1 := fun b hb => by
    rcases hat with e | e
    · exact .inl (e.symm.trans hb)
    · exact .inr (Option.some.inj (e.symm.trans hb)).symm
  have f' : ∀ b, v'.ownBlock = some b → b ≠ bL ∧ b ≠ gO ∧ ¬ inV vs b := fun b hb => by
    rcases fnew b hb with e | e
    · exact h.f1 b e
    · exact ⟨by omega, by omega, fun hi => by have := h.inl hi; omega⟩
  have lt2 : ∀ b, v2.ownBlock = some b → b < V.heap.size := fun b hb => (World.ownsRow.lt h.o2 b hb).2
  have lt3 : ∀ b, v3.ownBlock = some b → b < V.heap.size := fun b hb => (World.ownsRow.lt h.o3 b hb).2
  have e2 : ∀ b, v2.ownBlock = some b → (w1.setCell ⟨bL, 0, none⟩ v').heap[b]? = V.heap[b]? := fun b hb => (hset b (h.f2 b hb).1).trans (keep b (lt2 b hb) (fun e => h.a12 b e hb))
  have e3 : ∀ b, v3.ownBlock = some b → (w1.setCell ⟨bL, 0, none⟩ v').heap[b]? = V.heap[b]? := fun b hb => (hset b (h.f3 b hb).1).trans (keep b (lt3 b hb) (fun e => h.a13 b e hb))
  refine ⟨by simp [World.cell?, hbox], by simp [World.frozen?, hbox], ⟨?_, hown.same fun b hb _ => hset b (f' b hb).1, h.o2.same fun b hb _ => e2 b hb, h.o3.same fun b hb _ => e3 b hb, ?_, h.lsn, ?_, ?_, ?_, f', h.f2, h.f3, h.bl⟩⟩
  · rw [heap_setCell_same w1 bL 0 _ _ _ hbox]
    simp
  · refine h.rows.kept fun b hb hl => ?_
    rcases hb with hb | hb
    · have e : gO = b := Option.some.inj hb
      subst e
      rw [hset gO (fun e => h.bl.1 e.symm), keep gO hl (fun e => (h.f1 gO e).2.1 rfl)]
    · rw [hset b (fun e => h.bl.2.1 (by rw [← e]; exact hb)), keep b hl (fun e => (h.f1 b e).2.2 hb)]
  · intro b hb hb'
    rcases fnew b hb with e | e
    · exact h.a12 b e hb'
    · have := lt2 b hb'
      omega
  · intro b hb hb'
    rcases fnew b hb with e | e
    · exact h.a13 b e hb'
    · have := lt3 b hb'
      omega
  · exact h.a23

theorem L4.push2 (h : L4 V B bL gO n v1 v2 v3 A1 A2 A3 vs ls) (hown : OwnZ w1 B v' (A2 ++ [x])) (hg : (V.alloc o).grownBy w1 v2.ownBlock) (hat : v'.ownBlock = v2.ownBlock ∨ v'.ownBlock = some (V.heap.size + 1)) :
    w1.cell? ⟨bL, 1, none⟩ = some v2 ∧ w1.frozen? ⟨bL, 1, none⟩ = false ∧ L4 (w1.setCell ⟨bL, 1, none⟩ v') B bL gO n v1 v' v3 A1 (A2 ++ [x]) A3 vs ls := by
  have keep : ∀ b, b < V.heap.size → v2.ownBlock ≠ some b → w1.heap[b]? = V.heap[b]? := fun b hl hn => by
    rw [hg.block b (by rw [World.size_alloc]; omega) (fun e => hn e.symm)]
    exact Below.heap_alloc V _ b hl
  have hbl := lt_of_block h.box
  have hgl := h.gl
  have hbox : w1.heap[bL]? = some (.cells #[v1, v2, v3, .slice (some ⟨gO, 0, none⟩) n n] 31 (0, 0)) := (keep bL hbl (fun e => (h.f2 bL e).1 rfl)).trans h.box
  have hset : ∀ b, b ≠ bL → (w1.setCell ⟨bL, 1, none⟩ v').heap[b]? = w1.heap[b]? := fun b hb => heap_setCell_other w1 ⟨bL, 1, none⟩ b v' hb
  have fnew : ∀ b, v'.ownBlock = some b → (v2.ownBlock = some b) ∨ b = V.heap.size + 1 := fun b hb => by
    rcases hat with e | e
    · exact .inl (e.symm.trans hb)
    · exact .inr (Option.some.inj (e.symm.trans hb)).symm
  have f' : ∀ b, v'.ownBlock = some b → b ≠ bL ∧ b ≠ gO ∧ ¬ inV vs b := fun b hb => by
    rcases fnew b hb with e | e
    · exact h.f2 b e
    · exact ⟨by omega, by omega, fun hi => by have := h.inl hi; omega⟩
  have lt1 : ∀ b, v1.ownBlock = some b → b < V.heap.size := fun b hb => (World.ownsRow.lt h.o1 b hb).2
  have lt3 : ∀ b, v3.ownBlock = some b → b < V.heap.size := fun b hb => (World.ownsRow.lt h.o3 b hb).2
  have e1 : ∀ b, v1.ownBlock = some b → (w1.setCell ⟨bL, 1, none⟩ v').heap[b]? = V.heap[b]? := fun b hb => (hset b (h.f1 b hb).1).trans (keep b (lt1 b hb) (fun e => h.a12 b hb e))
  have e3 : ∀ b, v3.ownBlock = some b → (w1.setCell ⟨bL, 1, none⟩ v').heap[b]? = V.heap[b]? := fun b hb => (hset b (h.f3 b hb).1).trans (keep b (lt3 b hb) (fun e => h.a23 b e hb))
  refine ⟨by simp [World.cell?, hbox], by simp [World.frozen?, hbox], ⟨?_, h.o1.same fun b hb _ => e1 b hb, hown.same fun b hb _ => hset b (f' b hb).1, h.o3.same fun b hb _ => e3 b hb, ?_, h.lsn, ?_, ?_, ?_, h.f1, f', h.f3, h.bl⟩⟩
  · rw [heap_setCell_same w1 bL 1 _ _ _ hbox]
    simp
  · refine h.rows.kept fun b hb hl => ?_
    rcases hb with hb | hb
    · have e : gO = b := Option.some.inj hb
      subst e
      rw [hset gO (fun e => h.bl.1 e.symm), keep gO hl (fun e => (h.f2 gO e).2.1 rfl)]
    · rw [hset b (fun e => h.bl.2.1 (by rw [← e]; exact hb)), keep b hl (fun e => (h.f2 b e).2.2 hb)]
  · intro b hb hb'
    rcases fnew b hb' with e | e
    · exact h.a12 b hb e
    · have := lt1 b hb
      omega
  · exact h.a13
  · intro b hb hb'
    rcases fnew b hb with e | e
    · exact h.a23 b e hb'
    · have := lt3 b hb'
      omega

theorem L4.push3 (h : L4 V B bL gO n v1 v2 v3 A1 A2 A3 vs ls) (hown : OwnZ w1 B v' (A3 ++ [x])) (hg : (V.alloc o).grownBy w1 v3.ownBlock) (hat : v'.ownBlock = v3.ownBlock ∨ v'.ownBlock = some (V.heap.size + 1)) :
    w1.cell? ⟨bL, 2, none⟩ = some v3 ∧ w1.frozen? ⟨bL, 2, none⟩ = false ∧ L4 (w1.setCell ⟨bL, 2, none⟩ v') B bL gO n v1 v2 v' A1 A2 (A3 ++ [x]) vs ls := by
  have keep : ∀ b, b < V.heap.size → v3.ownBlock ≠ some b → w1.heap[b]? = V.heap[b]? := fun b hl hn => by
    rw [hg.block b (by rw [World.size_alloc]; omega) (fun e => hn e.symm)]
    exact Below.heap_alloc V _ b hl
  have hbl := lt_of_block h.box
  have hgl := h.gl
  have hbox : w1.heap[bL]? = some (.cells #[v1, v2, v3, .slice (some ⟨gO, 0, none⟩) n n] 31 (0, 0)) := (keep bL hbl (fun e => (h.f3 bL e).1 rfl)).trans h.box
  have hset : ∀ b, b ≠ bL → (w1.setCell ⟨bL, 2, none⟩ v').heap[b]? = w1.heap[b]? := fun b hb => heap_setCell_other w1 ⟨bL, 2, none⟩ b v' hb
  have fnew : ∀ b, v'.ownBlock = some b → (v3.ownBlock = some b) ∨ b = V.heap.size + 1 := fun b hb => by
    rcases hat with e | e
    · exact .inl (e.symm.trans hb)
    · exact .inr (Option.some.inj (e.symm.trans hb)).symm
  have f' : ∀ b, v'.ownBlock = some b → b ≠ bL ∧ b ≠ gO ∧ ¬ inV vs b := fun b hb => by
    rcases fnew b hb with e | e
    · exact h.f3 b e
    · exact ⟨by omega, by omega, fun hi => by have := h.inl hi; omega⟩
  have lt1 : ∀ b, v1.ownBlock = some b → b < V.heap.size := fun b hb => (World.ownsRow.lt h.o1 b hb).2
  have lt2 : ∀ b, v2.ownBlock = some b → b < V.heap.size := fun b hb => (World.ownsRow.lt h.o2 b hb).2
  have e1 : ∀ b, v1.ownBlock = some b → (w1.setCell ⟨bL, 2, none⟩ v').heap[b]? = V.heap[b]? := fun b hb => (hset b (h.f1 b hb).1).trans (keep b (lt1 b hb) (fun e => h.a13 b hb e))
  have e2 : ∀ b, v2.ownBlock = some b → (w1.setCell ⟨bL, 2, none⟩ v').heap[b]? = V.heap[b]? := fun b hb => (hset b (h.f2 b hb).1).trans (keep b (lt2 b hb) (fun e => h.a23 b hb e))
  refine ⟨by simp [World.cell?, hbox], by simp [World.frozen?, hbox], ⟨?_, h.o1.same fun b hb _ => e1 b hb, h.o2.same fun b hb _ => e2 b hb, hown.same fun b hb _ => hset b (f' b hb).1, ?_, h.lsn, ?_, ?_, ?_, h.f1, h.f2, f', h.bl⟩⟩
  · rw [heap_setCell_same w1 bL 2 _ _ _ hbox]
    simp
  · refine h.rows.kept fun b hb hl => ?_
    rcases hb with hb | hb
    · have e : gO = b := Option.some.inj hb
      subst e
      rw [hset gO (fun e => h.bl.1 e.symm), keep gO hl (fun e => (h.f3 gO e).2.1 rfl)]
    · rw [hset b (fun e => h.bl.2.1 (by rw [← e]; exact hb)), keep b hl (fun e => (h.f3 b e).2.2 hb)]
  · exact h.a12
  · intro b hb hb'
    rcases fnew b hb' with e | e
    · exact h.a13 b hb e
    · have := lt1 b hb
      omega
  · intro b hb hb'
    rcases fnew b hb' with e | e
    · exact h.a23 b hb e
    · have := lt2 b hb
      omega

/-- A list is stored among the lists. -/
theorem L4.lay {u : Nat} {l' : List Int} (h : L4 V B bL gO n v1 v2 v3 A1 A2 A3 vs ls) (hu : u < n) (hown : OwnZ V B v' l') (hf : ∀ b, v'.ownBlock = some b → Aw bL gO v1 v2 v3 vs b) :
    (∃ y, V.cell? ⟨gO, u, none⟩ = some y) ∧ V.frozen? ⟨gO, u, none⟩ = false ∧ L4 (V.setCell ⟨gO, u, none⟩ v') B bL gO n v1 v2 v3 A1 A2 A3 (vs.set u v') (ls.set u l') := by
  obtain ⟨h1, h2, h3⟩ := h.rows.swap h.lsn hu hown (fun b hb => ⟨(hf b hb).2.1, (hf b hb).2.2.1⟩)
  have hset : ∀ b, b ≠ gO → (V.setCell ⟨gO, u, none⟩ v').heap[b]? = V.heap[b]? := fun b hb => heap_setCell_other V ⟨gO, u, none⟩ b v' hb
  have hin : ∀ b, inV (vs.set u v') b → inV vs b ∨ v'.ownBlock = some b := fun b hb => by
    obtain ⟨a, y, hy, hb⟩ := hb
    rw [List.getElem?_set] at hy
    by_cases e : u = a
    · rw [if_pos e] at hy
      split at hy
      · cases hy; exact .inr hb
      · cases hy
    · rw [if_neg e] at hy
      exact .inl ⟨a, y, hy, hb⟩
  refine ⟨h1, h2, ⟨(hset bL h.bl.1).trans h.box, h.o1.same fun b hb _ => hset b (h.f1 b hb).2.1, h.o2.same fun b hb _ => hset b (h.f2 b hb).2.1, h.o3.same fun b hb _ => hset b (h.f3 b hb).2.1, h3, by rw [List.length_set]; exact h.lsn, h.a12, h.a13, h.a23, fun b hb => ⟨(h.f1 b hb).1, (h.f1 b hb).2.1, fun hi => ?_⟩, fun b hb => ⟨(h.f2 b hb).1, (h.f2 b hb).2.1, fun hi => ?_⟩, fun b hb => ⟨(h.f3 b hb).1, (h.f3 b hb).2.1, fun hi => ?_⟩, h.bl.1, fun hi => ?_, h.bl.2.2⟩⟩
  · rcases hin b hi with h4 | h4
    · exact (h.f1 b hb).2.2 h4
    · exact (hf b h4).2.2.2.1 hb
  · rcases hin b hi with h4 | h4
    · exact (h.f2 b hb).2.2 h4
    · exact (hf b h4).2.2.2.2.1 hb
  · rcases hin b hi with h4 | h4
    · exact (h.f3 b hb).2.2 h4
    · exact (hf b h4).2.2.2.2.2 hb
  · rcases hin bL hi with h4 | h4
    · exact h.bl.2.1 h4
    · exact (hf bL h4).1 rfl
end

end Go.Proofs.YtmgoahbloppdmaaGreat

/-
  The document's Of of layer 8: Low, Low2 and Nest of all edges.
-/
namespace Go.Proofs.YtmgoahbloppdmaaGreat
open Go.RowKit

/-- Writing only what was laid since. -/
theorem Below.pushed {B bL i : Nat} {w3 V w1 : World} {r : Option Nat} {o : Obj} {x : Value} (h : Below B w3 V) (hB : B ≤ V.heap.size) (hg : (V.alloc o).grownBy w1 r) (hr : ∀ b, r = some b → B ≤ b) (hbL : B ≤ bL) : Below B w3 (w1.setCell ⟨bL, i, none⟩ x) :=
  ((h.alloc hB o).grown hg (by rw [World.size_alloc]; omega) hr).setCell (p := ⟨bL, i, none⟩) hbL x

section
variable {V w1 : World} {B bL gO n : Nat} {v1 v2 v3 vl v' : Value} {A1 A2 A3 : List Int} {vs : List Value} {ls : List (List Int)} {o : Obj}
theorem L4.aw_new (h : L4 V B bL gO n v1 v2 v3 A1 A2 A3 vs ls) {b : Nat} (hb : V.heap.size ≤ b) : Aw bL gO v1 v2 v3 vs b := by
  have h1 := lt_of_block h.box
  have h2 := h.gl
  refine ⟨by omega, by omega, fun hi => ?_, fun e => ?_, fun e => ?_, fun e => ?_⟩
  · have := h.inl hi; omega
  · have := (World.ownsRow.lt h.o1 b e).2; omega
  · have := (World.ownsRow.lt h.o2 b e).2; omega
  · have := (World.ownsRow.lt h.o3 b e).2; omega
/-- A list beside them is grown. -/
theorem L4.app (h : L4 V B bL gO n v1 v2 v3 A1 A2 A3 vs ls) (hf : ∀ b, vl.ownBlock = some b → Aw bL gO v1 v2 v3 vs b) (hg : (V.alloc o).grownBy w1 vl.ownBlock) (hat : v'.ownBlock = vl.ownBlock ∨ v'.ownBlock = some (V.heap.size + 1)) :
    L4 w1 B bL gO n v1 v2 v3 A1 A2 A3 vs ls ∧ ∀ b, v'.ownBlock = some b → Aw bL gO v1 v2 v3 vs b := by
  refine ⟨h.grown hg hf, fun b hb => ?_⟩
  rcases hat with e | e
  · exact hf b (e.symm.trans hb)
  · have := Option.some.inj (e.symm.trans hb)
    exact h.aw_new (by omega)
end

theorem row_at8 {w : World} {B g c N : Nat} {vs : List Value} {ls : List (List Int)} (h : RowsZ w B (.slice (some ⟨g, 0, none⟩) N c) vs ls) {k : Nat} {x : Value} (hx : vs[k]? = some x) : w.cell? ⟨g, k, none⟩ = some x := by
  have := World.ownsRow.cells h.outer (g := g) rfl k x hx
  have ea : ((⟨g, 0, none⟩ : Addr).add k) = ⟨g, k, none⟩ := by
    by_cases h0 : k = 0 <;> simp [Addr.add, h0]
  rw [ea] at this
  exact this

theorem Lo.Got.len {p : Int → Bool} {h : Int} {L l : List Int} {i : Nat} {d : Bool} (g : Lo.Got p h L i l d) : l.length ≤ i + 1 := by
  rcases g with ⟨_, g1, g2⟩ | ⟨_, g1, g2⟩
  · rw [g2, List.length_take]
    omega
  · rw [g2, List.length_append, List.length_cons, List.length_take]
    omega

end Go.Proofs.YtmgoahbloppdmaaGreat
