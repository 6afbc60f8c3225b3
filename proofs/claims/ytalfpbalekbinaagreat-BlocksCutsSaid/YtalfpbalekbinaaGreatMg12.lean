import Derived.Test.YtalfpbalekbinaaGreatMg09
import Derived.Test.YtalfpbalekbinaaGreatMg11
import Derived.Test.YtalfpbalekbinaaGreatMg10
import Derived.Maps.RangeWalk
import Derived.Test.YtalfpbalekbinaaGreatMg00
import Derived.Deep.QuietTactic
import Derived.BigQuiet
/-
  The finder in memory: its stack, its way, the blocks that it has found.
-/
namespace Go.Proofs.YtalfpbalekbinaaGreat
open Go.RowKit

theorem Tryz.infoHeld : (Tryz.prog.info? 103).map (fun i => (i.zero, i.size, i.bytes)) = some (some (.agg #[.int .i64 0, .int .i64 0]), 2, 16) := by kernel_rfl

namespace Bl
def prs (S : List (Nat × Int)) : List (Int × Int) := S.map fun q => ((q.1 : Int), q.2)
theorem prs_length (S : List (Nat × Int)) : (prs S).length = S.length := by simp [prs]
theorem prs_at {S : List (Nat × Int)} {a t : Nat} {l : Int} (h : S[a]? = some (t, l)) : (prs S)[a]? = some ((t : Int), l) := by
  unfold prs
  rw [List.getElem?_map, h]
  rfl
/-- The least of a list. -/
def mn : List Nat → Nat
  | [] => 0
  | [a] => a
  | a :: b :: l => min a (mn (b :: l))
theorem mn_mem : ∀ {l : List Nat}, l ≠ [] → mn l ∈ l
  | [], h => absurd rfl h
  | [a], _ => by simp [mn]
  | a :: b :: l, _ => by
    have ih := mn_mem (l := b :: l) (by simp)
    unfold mn
    rcases Nat.le_total a (mn (b :: l)) with h | h
    · rw [Nat.min_eq_left h]; simp
    · rw [Nat.min_eq_right h]; exact List.mem_cons_of_mem _ ih
theorem mn_le : ∀ {l : List Nat}, ∀ x ∈ l, mn l ≤ x
  | [], x, h => by simp at h
  | [a], x, h => by
    have : x = a := by simpa using h
    simp [mn, this]
  | a :: b :: l, x, h => by
    have ih := mn_le (l := b :: l)
    unfold mn
    rcases List.mem_cons.1 h with rfl | h
    · exact Nat.min_le_left _ _
    · exact Nat.le_trans (Nat.min_le_right _ _) (ih x h)
theorem mn_eq {l : List Nat} {x : Nat} (hx : x ∈ l) (h : ∀ y ∈ l, x ≤ y) : mn l = x := Nat.le_antisymm (mn_le x hx) (h _ (mn_mem (fun e => by rw [e] at hx; cases hx)))
end Bl

/-- v is the stack S, in memory of its own. -/
def OwnH (w : World) (B : Nat) (v : Value) (S : List (Nat × Int)) : Prop := w.ownsRow B 103 2 v S.length (flatE (Bl.prs S))

section
variable {w w' : World} {B : Nat} {v : Value} {S : List (Nat × Int)}
theorem OwnH.nil (w : World) (B : Nat) : OwnH w B (.slice none 0 0) [] := World.ownsRow_nil _ _ _ _
theorem OwnH.same (h : OwnH w B v S) (hb : ∀ g, v.ownBlock = some g → g < w.heap.size → w'.heap[g]? = w.heap[g]?) : OwnH w' B v S := by
  refine ⟨h.1, ?_⟩
  rcases h.2 with h | ⟨g, cap, cur, e1, hgB, hh, hr⟩
  · exact .inl h
  · exact .inr ⟨g, cap, cur, e1, hgB, (hb g (by rw [e1]; rfl) (lt_of_block hh)).trans hh, hr⟩
theorem OwnH.lt (h : OwnH w B v S) {g : Nat} (hg : v.ownBlock = some g) : B ≤ g ∧ g < w.heap.size := World.ownsRow.lt h g hg
/-- One of the stack. -/
theorem OwnH.row (h : OwnH w B v S) {a t : Nat} {l : Int} (hl : S[a]? = some (t, l)) : ∃ g c cur, v = .slice (some ⟨g, 0, none⟩) S.length c ∧ S.length ≤ c ∧ w.heap[g]? = some (.cells cur 103 (0, 0)) ∧ c ≤ maxLen ∧ cur.size = c * 2 ∧ cur.toList.take (S.length * 2) = flatE (Bl.prs S) ∧ B ≤ g ∧ g < w.heap.size := by
  have hal := (List.getElem?_eq_some_iff.1 hl).1
  rcases h.2 with ⟨_, h0⟩ | ⟨g, cap, cur, e1, hgB, hh, hc, hm, hs, ht⟩
  · omega
  · exact ⟨g, cap, cur, e1, hc, hh, hm, hs, ht, hgB, lt_of_block hh⟩
theorem row_cells {g k : Nat} {cur : Array Value} (hh : w.heap[g]? = some (.cells cur 103 (0, 0))) (hk : k = S.length * 2) (ht : cur.toList.take k = flatE (Bl.prs S)) {a t : Nat} {l : Int} (hl : S[a]? = some (t, l)) : w.cell? ⟨g, a * 2, none⟩ = some (.int .i64 (t : Int)) ∧ w.cell? ⟨g, a * 2 + 1, none⟩ = some (.int .i64 l) := by
  have hal := (List.getElem?_eq_some_iff.1 hl).1
  obtain ⟨h0, h1⟩ := flatE_at _ a _ (Bl.prs_at hl)
  rw [← ht, List.getElem?_take_of_lt (by omega)] at h0 h1
  simp only [Array.getElem?_toList] at h0 h1
  simp [World.cell?, hh, h0, h1]
theorem flatE_set : ∀ (ps : List (Int × Int)) (a : Nat) (x y z : Int), ps[a]? = some (x, y) → flatE (ps.set a (x, z)) = (flatE ps).set (a * 2 + 1) (.int .i64 z)
  | [], a, x, y, z, h => by simp at h
  | p :: ps, 0, x, y, z, h => by
    have : p = (x, y) := by simpa using h
    subst this
    simp [flatE]
  | p :: ps, a + 1, x, y, z, h => by
    have ih := flatE_set ps a x y z (by simpa using h)
    have e : (a + 1) * 2 + 1 = (a * 2 + 1) + 1 + 1 := by omega
    rw [e]
    simpa [flatE] using ih
theorem flatE_take : ∀ (ps : List (Int × Int)) (a : Nat), flatE (ps.take a) = (flatE ps).take (a * 2)
  | [], a => by simp [flatE]
  | p :: ps, 0 => by simp [flatE]
  | p :: ps, a + 1 => by
    have := flatE_take ps a
    rw [show (a + 1) * 2 = a * 2 + 1 + 1 by omega]
    simpa [flatE] using this
theorem prs_set (S : List (Nat × Int)) (a t : Nat) (z : Int) : Bl.prs (S.set a (t, z)) = (Bl.prs S).set a ((t : Int), z) := by
  unfold Bl.prs
  rw [List.map_set]
/-- A low is written. -/
theorem OwnH.put (h : OwnH w B v S) {a t g c : Nat} {l z : Int} (hl : S[a]? = some (t, l)) (hv : v = .slice (some ⟨g, 0, none⟩) S.length c) : OwnH (w.setCell ⟨g, a * 2 + 1, none⟩ (.int .i64 z)) B v (S.set a (t, z)) := by
  obtain ⟨g', c', cur, e, hc, hh, hm, hs, ht, hB, _⟩ := h.row hl
  rw [hv] at e
  cases e
  have hal := (List.getElem?_eq_some_iff.1 hl).1
  refine ⟨?_, .inr ⟨g, c, cur.setIfInBounds (a * 2 + 1) (.int .i64 z), ?_, hB, heap_setCell_same w g _ _ _ _ hh, ?_, hm, by simpa using hs, ?_⟩⟩
  · rw [flatE_length, Bl.prs_length]
  · rw [hv, List.length_set]
  · rw [List.length_set]; exact hc
  · rw [List.length_set, prs_set, flatE_set _ a _ _ _ (Bl.prs_at hl), ← ht, Array.toList_setIfInBounds, List.take_set]
/-- The stack is cut. -/
theorem OwnH.cut (h : OwnH w B v S) {a g c : Nat} (ha : a ≤ S.length) (hv : v = .slice (some ⟨g, 0, none⟩) S.length c) : OwnH w B (.slice (some ⟨g, 0, none⟩) a c) (S.take a) := by
  rcases h.2 with ⟨e, _⟩ | ⟨g', c', cur, e, hB, hh, hc, hm, hs, ht⟩
  · rw [hv] at e; cases e
  rw [hv] at e
  cases e
  have hl : (S.take a).length = a := by simp; omega
  refine ⟨by rw [flatE_length, Bl.prs_length], .inr ⟨g, c, cur, by rw [hl], hB, hh, by omega, hm, hs, ?_⟩⟩
  have e1 : flatE (Bl.prs (S.take a)) = (flatE (Bl.prs S)).take (a * 2) := by
    have : Bl.prs (S.take a) = (Bl.prs S).take a := by unfold Bl.prs; rw [List.map_take]
    rw [this, flatE_take]
  rw [hl, e1, ← ht, List.take_take, Nat.min_eq_left (by omega)]
end

/-- A map's elements as they are. -/
def rawE (v : Value) : Option (DataW Value × List MemPlace) := some (.held v, [])

/-- What doesn't turn while the finder goes: rows lie from block B on, the finder is block p, the map block mb. -/
structure Fx where
  B : Nat
  p : Nat
  mb : Nat
  av : Value
  n : Nat
  es : List (Int × Int)
  f : For
  s : Df.St

structure Fx.Ok (x : Fx) (w0 : World) : Prop where
  adj : IsAdj w0 x.av x.n x.es
  val : Si.Val x.n x.es
  lst : LstF w0 x.f x.s
  vf : Df.VF x.n x.es x.s
  l1 : w0.heap.size ≤ x.mb
  l2 : w0.heap.size ≤ x.p
  l3 : x.mb < x.B
  l4 : x.p < x.B
  l5 : x.mb ≠ x.p

abbrev Fx.cells (x : Fx) (sv yv : Value) : Array Value := #[x.av, .slice x.f.a1 x.n x.f.c1, .slice x.f.a2 x.n x.f.c2, .slice x.f.a3 x.n x.f.c3, .slice x.f.a4 x.es.length x.f.c4, sv, yv, .map (some x.mb)]

structure FinIn (x : Fx) (w0 w : World) (sv yv : Value) (D : DataW Value) (G : Nat → Prop) (S : List (Nat × Int)) (Y : List Nat) (F : List (List Nat)) : Prop where
  ok : x.Ok w0
  below : Below w0.heap.size w0 w
  size : x.B ≤ w.heap.size
  blk : w.heap[x.p]? = some (.cells (x.cells sv yv) 68 (0, 0))
  stk : OwnH w x.B sv S
  way : OwnZ w x.B yv (Y.map Nat.cast)
  ne : sv.ownBlock = none ∨ sv.ownBlock ≠ yv.ownBlock
  map : w.ownsMap Tryz.prog 3 rawE x.mb F.length D
  keys : ∀ kl, Maps.has D kl = true ↔ ∃ L ∈ F, kl = .int .i64 (Bl.mn L : Int)
  rows : ∀ L ∈ F, ∃ g, D.atKey (.int .i64 (Bl.mn L : Int)) .nil = .held (.slice (some ⟨g, 0, none⟩) L.length L.length) ∧ x.B ≤ g ∧ G g ∧ IntsBlk w g (L.map Nat.cast)
  far : ∀ g, G g → g < w.heap.size ∧ sv.ownBlock ≠ some g ∧ yv.ownBlock ≠ some g

/-- The blocks that may be written while the map stands. -/
abbrev FinW (x : Fx) (sv yv : Value) (k : Nat) : Prop := k = x.p ∨ sv.ownBlock = some k ∨ yv.ownBlock = some k

section
variable {x : Fx} {w0 w w' : World} {sv yv : Value} {D : DataW Value} {G : Nat → Prop} {S : List (Nat × Int)} {Y : List Nat} {F : List (List Nat)}

theorem FinIn.plt (h : FinIn x w0 w sv yv D G S Y F) : x.p < w.heap.size := lt_of_block h.blk
theorem FinIn.sfar (h : FinIn x w0 w sv yv D G S Y F) {k : Nat} (hk : k < x.B) : sv.ownBlock ≠ some k := fun e => by have := (h.stk.lt e).1; omega
theorem FinIn.yfar (h : FinIn x w0 w sv yv D G S Y F) {k : Nat} (hk : k < x.B) : yv.ownBlock ≠ some k := fun e => by have := (World.ownsRow.lt h.way _ e).1; omega
theorem FinIn.cells (h : FinIn x w0 w sv yv D G S Y F) {i : Nat} {u : Value} (hu : (x.cells sv yv)[i]? = some u) : w.cell? ⟨x.p, i, none⟩ = some u ∧ w.frozen? ⟨x.p, i, none⟩ = false := by
  simp only [World.cell?, World.frozen?, h.blk]
  exact ⟨by simpa using hu, by simp⟩

/-- Written are the finder's own cells and rows alone. -/
theorem FinIn.turn (h : FinIn x w0 w sv yv D G S Y F) {sv' yv' : Value} {S' : List (Nat × Int)} {Y' : List Nat} (hw : Wrote (FinW x sv yv) w w') (hblk : w'.heap[x.p]? = some (.cells (x.cells sv' yv') 68 (0, 0))) (hs : OwnH w' x.B sv' S') (hy : OwnZ w' x.B yv' (Y'.map Nat.cast)) (hne : sv'.ownBlock = none ∨ sv'.ownBlock ≠ yv'.ownBlock)
    (h1 : sv'.ownBlock = sv.ownBlock ∨ ∃ g, sv'.ownBlock = some g ∧ w.heap.size ≤ g) (h2 : yv'.ownBlock = yv.ownBlock ∨ ∃ g, yv'.ownBlock = some g ∧ w.heap.size ≤ g) : FinIn x w0 w' sv' yv' D G S' Y' F := by
  have hok := h.ok
  have hbel : Below w0.heap.size w w' := hw.below h.below.size (fun k hk => by
    rcases hk with rfl | e | e
    · exact hok.l2
    · have h1 := (h.stk.lt e).1; have h2 := hok.l2; have h3 := hok.l4; omega
    · have h1 := (World.ownsRow.lt h.way _ e).1; have h2 := hok.l2; have h3 := hok.l4; omega)
  have hmb : w'.heap[x.mb]? = w.heap[x.mb]? := hw.block _ h.map.lt (fun hk => by
    rcases hk with e | e | e
    · exact hok.l5 e
    · exact h.sfar hok.l3 e
    · exact h.yfar hok.l3 e)
  refine ⟨hok, h.below.trans hbel, Nat.le_trans h.size hw.size, hblk, hs, hy, hne, ?_, h.keys, fun L hL => ?_, fun g hg => ?_⟩
  · obtain ⟨es, ck, e, r⟩ := h.map
    exact ⟨es, ck, hmb.trans e, r⟩
  · obtain ⟨g, e, hB, hG, hi⟩ := h.rows L hL
    refine ⟨g, e, hB, hG, (hw.block g hi.lt (fun hk => ?_)).trans hi⟩
    rcases hk with e1 | e1 | e1
    · have := hok.l4; omega
    · exact (h.far g hG).2.1 e1
    · exact (h.far g hG).2.2 e1
  · obtain ⟨a, b, c⟩ := h.far g hg
    refine ⟨Nat.lt_of_lt_of_le a hw.size, ?_, ?_⟩
    · rcases h1 with e | ⟨k, e, hk⟩
      · rw [e]; exact b
      · rw [e]; intro e2; have := Option.some.inj e2; omega
    · rcases h2 with e | ⟨k, e, hk⟩
      · rw [e]; exact c
      · rw [e]; intro e2; have := Option.some.inj e2; omega
theorem FinIn.later (h : FinIn x w0 w sv yv D G S Y F) (hb : Below w.heap.size w w') : FinIn x w0 w' sv yv D G S Y F :=
  h.turn ⟨hb.os, hb.tape, hb.output, hb.size, fun k hk _ => hb.block k hk⟩ ((hb.block _ h.plt).trans h.blk) (h.stk.same fun g _ hl => hb.block g hl) (h.way.later hb) h.ne (.inl rfl) (.inl rfl)
end

set_option maxRecDepth 100000 in
set_option maxHeartbeats 16000000 in
theorem lower_any (x : Fx) (w0 w : World) (sv yv : Value) (D : DataW Value) (G : Nat → Prop) (S : List (Nat × Int)) (Y : List Nat) (a t : Nat) (l z : Int) (F : List (List Nat)) (h : FinIn x w0 w sv yv D G S (Y ++ [a]) F) (hl : S[a]? = some (t, l)) (hY : Y.length ≤ 4194304) :
    Calls Tryz.prog 77 #[.pointer (some ⟨x.p, 0, none⟩), .int .i64 z] w fun e w' => e = .returned (.tuple #[]) ∧ FinIn x w0 w' sv yv D G (S.set a (t, min l z)) (Y ++ [a]) F ∧ Wrote (fun k => sv.ownBlock = some k) w w' := by
  have H := Nu.hid h
  have hal := (List.getElem?_eq_some_iff.1 hl).1
  obtain ⟨gs, cs, cur, hsv, hcl, hh, hm, hcs, ht, hBs, hgs⟩ := h.stk.row hl
  have hw := h.way
  rw [List.map_append] at hw
  obtain ⟨gy, cy, hyv, d0, hcy, hBy, hgy⟩ := hw.row_snoc
  rw [List.length_map] at hyv d0 hcy
  obtain ⟨k0, k1⟩ := row_cells hh rfl ht hl
  have c5 : w.cell? ⟨x.p, 5, none⟩ = some sv := (h.cells (i := 5) rfl).1
  have c6 : w.cell? ⟨x.p, 6, none⟩ = some yv := (h.cells (i := 6) rfl).1
  have kf : w.frozen? ⟨gs, a * 2 + 1, none⟩ = false := by simp [World.frozen?, hh]
  rw [hsv] at c5
  rw [hyv] at c6
  have HEND : Hid (∀ q, FinIn x w0 ((w.drewN q).setCell ⟨gs, a * 2 + 1, none⟩ (.int .i64 (min l z))) sv yv D G (S.set a (t, min l z)) (Y ++ [a]) F ∧ Wrote (fun k => sv.ownBlock = some k) w ((w.drewN q).setCell ⟨gs, a * 2 + 1, none⟩ (.int .i64 (min l z)))) := by
    intro q
    have hW : Wrote (fun k => sv.ownBlock = some k) w ((w.drewN q).setCell ⟨gs, a * 2 + 1, none⟩ (.int .i64 (min l z))) := ((Wrote.refl _ w).drewN q).setCell (by rw [hsv]; rfl) _
    have hpg : x.p ≠ gs := fun e => by have := h.ok.l4; omega
    have hyg : ∀ g, yv.ownBlock = some g → g ≠ gs := fun g hg e => by
      rcases h.ne with e1 | e1
      · rw [hsv] at e1; cases e1
      · exact e1 (by rw [hg, hsv, e]; rfl)
    refine ⟨h.turn (hW.mono fun k _ hk => .inr (.inl hk)) ((heap_setCell_other (w.drewN q) ⟨gs, a * 2 + 1, none⟩ x.p _ hpg).trans h.blk) ?_ ?_ h.ne (.inl rfl) (.inl rfl), hW⟩
    · exact OwnH.put (w := w.drewN q) h.stk hl hsv
    · exact h.way.same fun g hg _ => heap_setCell_other (w.drewN q) ⟨gs, a * 2 + 1, none⟩ g _ (hyg g hg)
  obtain ⟨L, hL⟩ : ∃ L, S.length = L := ⟨_, rfl⟩
  obtain ⟨K, hK⟩ : ∃ K, Y.length = K := ⟨_, rfl⟩
  rw [hL] at c5 hal
  rw [hK] at c6 d0 hY
  clear h hw hh hsv hyv hcl hcs ht hm hBs hgs hBy hgy hcy hl H hL hK k0
  have e1 : ((K : Int) + 1) - 1 = (K : Int) := by omega
  have e2 : (0 : Int) ≤ (K : Int) := by omega
  have e3 : (K : Int) < (K : Int) + 1 := by omega
  have a0 : (0 : Int) ≤ (a : Int) := by omega
  have a1 : (a : Int) < (L : Int) := by omega
  by_cases hz : z < l
  · have em : min l z = z := by omega
    rw [em] at HEND
    rw [em]
    clear em
    go_enter Tryz.func77, Tryz.ntmps77
    go_wp2_with fail
    go_quiet (fail)
    go_wp2_with fail
    go_big_region
    go_wp2
    go_end0
    exact ⟨rfl, HEND.out _⟩
  · have em : min l z = l := by omega
    rw [em] at HEND
    rw [em]
    clear em
    go_enter Tryz.func77, Tryz.ntmps77
    go_wp2_with fail
    go_quiet (fail)
    go_wp2_with fail
    go_big_region
    go_wp2
    go_end0
    exact ⟨rfl, HEND.out _⟩

end Go.Proofs.YtalfpbalekbinaaGreat

/-
  slices.Min of ints.
-/
namespace Go.Proofs.YtalfpbalekbinaaGreat
open Go.RowKit

/-- m is the least of the first k. -/
def Bl.Min (l : List Int) (k : Nat) (m : Int) : Prop := (∃ j, j < k ∧ l[j]? = some m) ∧ ∀ (j : Nat) (z : Int), j < k → l[j]? = some z → m ≤ z

theorem Bl.Min.more {l : List Int} {k : Nat} {m y : Int} (h : Bl.Min l k m) (hy : l[k]? = some y) : Bl.Min l (k + 1) (if y < m then y else m) := by
  obtain ⟨⟨j, hj, e⟩, h2⟩ := h
  by_cases c : y < m
  · rw [if_pos c]
    refine ⟨⟨k, by omega, hy⟩, fun i z hi hz => ?_⟩
    by_cases hk : i = k
    · subst hk; rw [hy] at hz; cases hz; exact Int.le_refl _
    · have := h2 i z (by omega) hz; omega
  · rw [if_neg c]
    refine ⟨⟨j, by omega, e⟩, fun i z hi hz => ?_⟩
    by_cases hk : i = k
    · subst hk; rw [hy] at hz; cases hz; omega
    · exact h2 i z (by omega) hz
theorem Bl.Min.mn {L : List Nat} {m : Int} (h : Bl.Min (L.map Nat.cast) L.length m) : m = (Bl.mn L : Int) := by
  obtain ⟨⟨j, hj, e⟩, h2⟩ := h
  rw [List.getElem?_map] at e
  obtain ⟨x, hx, rfl⟩ := Option.map_eq_some_iff.1 e
  rw [Bl.mn_eq (List.mem_of_getElem? hx)]
  intro y hy
  obtain ⟨i, hi⟩ := List.getElem?_of_mem hy
  have := h2 i (y : Int) (List.getElem?_eq_some_iff.1 hi).1 (by rw [List.getElem?_map, hi]; rfl)
  omega

set_option maxRecDepth 100000 in
set_option maxHeartbeats 4000000 in
theorem min_any (ao : Option Addr) (ca n : Nat) (l : List Int) (w : World) (hn : l.length = n) (h0 : 0 < n) (hl : n ≤ 17592186043904) (ha : IntsAt w ao l) :
    Calls Tryz.prog 98 #[.slice ao n ca] w fun e w' => ∃ m, e = .returned (.int .i64 m) ∧ Bl.Min l n m ∧ w' = w := by
  obtain ⟨x, hx⟩ : ∃ x, l[0]? = some x := ⟨_, List.getElem?_eq_getElem (by omega)⟩
  obtain ⟨b, o, rfl, c0⟩ := ha 0 x hx
  have HA := Nu.hid ha
  have HN := Nu.hid hn
  have HX := Nu.hid hx
  have i0 : (0 : Int) < (n : Int) := by omega
  have i1 : ¬ ((n : Int) < 1) := by omega
  rw [Nat.add_zero] at c0
  clear ha hn hx
  go_enter Tryz.func98, Tryz.ntmps98
  go_wp2
  go_loopw [3, 4] (fun mv c wr => ∃ (k : Nat) (m : Int), 0 < k ∧ k ≤ n ∧ c = .int .i64 k ∧ mv = .int .i64 m ∧ Bl.Min l k m ∧ wr = w) (fun _ c _ => n - (intOf c).toNat)
  case atStart => exact ⟨1, x, by omega, by omega, rfl, rfl, ⟨⟨0, by omega, HX.out⟩, fun j z hj hz => by
    obtain rfl : j = 0 := by omega
    rw [HX.out] at hz
    cases hz
    exact Int.le_refl _⟩, rfl⟩
  case round =>
    obtain ⟨k, m, hk0, hk, rfl, rfl, hm, rfl⟩ := hrel
    have HM := Nu.hid hm
    clear hm
    by_cases hlt : k < n
    · have hlti : (k : Int) < (n : Int) := by omega
      have hki : (0 : Int) ≤ (k : Int) := by omega
      obtain ⟨y, hy⟩ : ∃ y, l[k]? = some y := ⟨_, List.getElem?_eq_getElem (by have := HN.out; omega)⟩
      obtain ⟨b', o', e', ck⟩ := HA.out k y hy
      cases e'
      have HY := Nu.hid hy
      clear hy
      obtain ⟨q, hq⟩ : ∃ q, q = (if y < m then y else m) := ⟨_, rfl⟩
      have HQ := Nu.hid (HM.out.more HY.out)
      rw [← hq] at HQ
      go_wp2
      rw [← hq]
      go_roundw
      case rel => exact ⟨k + 1, q, by omega, by omega, by go_num, rfl, HQ.out, trivial⟩
      case measure => simp [intOf]; omega
    · have hd : ¬ ((k : Int) < (n : Int)) := by omega
      obtain rfl : k = n := by omega
      go_wp2
      go_ret
      exact ⟨m, rfl, HM.out, rfl⟩

end Go.Proofs.YtalfpbalekbinaaGreat

/-
  A region that draws its order, each of whose operations gives a value of its own, known ahead; in no round.
-/
namespace Go.Proofs.YtalfpbalekbinaaGreat
open Go.RowKit

namespace AnyOrd

def updB (L : Nat → Bool) (i : Nat) : Nat → Bool := fun j => if j = i then true else L j

theorem part_all {ops : Array Oper} {a0 : Act} {ρ : Nat → Value} {L : Nat → Bool} : ∀ {k : Nat}, (∀ i, i < k → L i = true) → part ops a0 ρ L k = canon ops a0 ρ k
  | 0, _ => rfl
  | k + 1, h => by
    unfold part canon
    rw [if_pos (h k (by omega)), part_all fun i hi => h i (by omega)]

theorem anyP {P : Program} {ops : Array Oper} {Q : Exit → Act → World → Prop} {a0 : Act} {w0 : World} (val : Nat → Value) (C : (Nat → Bool) → World → Prop) (N : Nat) (hN : a0.tmps.size = N) (hsh : shape ops ops.size (fun _ => []) = true)
    (h00 : C (fun _ => false) w0)
    (hstep : ∀ i o (L : Nat → Bool) w (ev : Operand → Value), ops[i]? = some o → L i = false → C L w → (∀ e ∈ o.after, Region.binds .any e = true → L e.on = true) → (∀ j o', ops[j]? = some o' → L j = true → ∀ e ∈ o'.after, Region.binds .any e = true → L e.on = true) →
      (∀ j t, j < i → dst ops j = some t → t < N → ev (.tmp t) = val j) → (∀ t, ((List.range i).all fun j => dst ops j != some t) = true → ev (.tmp t) = a0.eval (.tmp t)) → (∀ v, ev (.const v) = v) → (∀ f, ev (.func f) = .func (.func f) #[] #[]) →
      Gives P o ev w fun v w' => v = val i ∧ C (updB L i) w')
    (hend : ∀ L w, (∀ i, i < ops.size → L i = true) → C L w → Q .normal (canon ops a0 val ops.size) w) :
    wpAny P .any ops Q ops.size (Array.replicate ops.size false) a0 w0 := by
  have hs := fun i (hi : i < ops.size) => List.all_eq_true.1 hsh i (List.mem_range.2 hi)
  have hlt : ∀ {j t}, dst ops j = some t → j < ops.size := fun {j t} h => by
    rcases Nat.lt_or_ge j ops.size with h1 | h1
    · exact h1
    · unfold dst at h; rw [Array.getElem?_eq_none h1] at h; cases h
  have hone : ∀ i j t, i ≠ j → dst ops j = some t → dst ops i ≠ some t := fun i j t hij hj hi => by
    have h1 := hs j (hlt hj)
    dsimp only at h1
    cases ho : ops[j]? with
    | none => rw [ho] at h1; cases h1
    | some o =>
      have hd : o.dst = some t := by unfold dst at hj; rw [ho] at hj; exact hj
      rw [ho] at h1
      simp only [Bool.and_eq_true] at h1
      have h2 := h1.1
      rw [hd] at h2
      have h3 := List.all_eq_true.1 h2 i (List.mem_range.2 (hlt hi))
      simp only [Bool.or_eq_true, beq_iff_eq, bne_iff_ne] at h3
      rcases h3 with h3 | h3
      · exact hij h3
      · exact h3 hi
  have hop : ∀ i, i < ops.size → ∃ o, ops[i]? = some o ∧ o.guard = none ∧ (∀ cs b, o.op ≠ .select cs b) ∧
      (∀ t, Operand.tmp t ∈ o.op.operands → ∀ j, j < ops.size → dst ops j = some t → j < i ∧ ∃ e ∈ o.after, Region.binds .any e = true ∧ e.on = j) ∧ (∀ e ∈ o.after, Region.binds .any e = true → e.on < i) := fun i hi => by
    have h1 := hs i hi
    dsimp only at h1
    cases ho : ops[i]? with
    | none => rw [ho] at h1; cases h1
    | some o =>
      rw [ho] at h1
      simp only [Bool.and_eq_true, if_pos hi] at h1
      obtain ⟨_, ⟨⟨⟨g1, g2⟩, g4⟩, _⟩, g6⟩ := h1
      refine ⟨o, rfl, by simpa using g1, (fun cs b hsel => by rw [hsel] at g2; cases g2), fun t ht j hj hd => ?_, fun e he hb => ?_⟩
      · have h2 := List.all_eq_true.1 g4 (.tmp t) (by simpa using ht)
        dsimp only at h2
        have h3 := List.all_eq_true.1 h2 j (List.mem_range.2 hj)
        simp only [Bool.or_eq_true, bne_iff_ne, Bool.and_eq_true, decide_eq_true_eq, List.any_eq_true, beq_iff_eq] at h3
        rcases h3 with h3 | ⟨h3, e, he, h4⟩
        · exact absurd hd h3
        · exact ⟨h3, e, by simpa using he, h4⟩
      · have h2 := Array.all_eq_true_iff_forall_mem.1 g6 e he
        rw [hb] at h2
        simpa using h2
  have fin : ∀ (listed : Array Bool), listed.size = ops.size → Region.ready .any ops listed = [] → ∀ i, i < ops.size → listed.getD i false = true := by
    intro listed hl hr i
    induction i using Nat.strongRecOn with
    | _ i ih =>
      intro hi
      by_cases hb : listed.getD i false = true
      · exact hb
      · exfalso
        have hi' : i < listed.size := by omega
        have h0 : listed.getD i true = false := by
          simp [hi'] at hb ⊢
          exact hb
        obtain ⟨o, ho, _, _, _, hlow⟩ := hop i hi
        have hm : i ∈ Region.ready .any ops listed := by
          rw [mem_ready]
          refine ⟨h0, o, ho, fun e he hbd => ?_⟩
          have := hlow e he hbd
          exact ih e.on this (by omega)
        rw [hr] at hm
        cases hm
  have key : ∀ (fuel : Nat) (listed : Array Bool) (w : World), listed.size = ops.size → listed.toList.count false = fuel → C (fun j => listed.getD j false) w → (∀ j o', ops[j]? = some o' → listed.getD j false = true → ∀ e ∈ o'.after, Region.binds .any e = true → listed.getD e.on false = true) →
      wpAny P .any ops Q fuel listed (part ops a0 val (fun j => listed.getD j false) ops.size) w := by
    intro fuel
    induction fuel with
    | zero =>
      intro listed w hl hc hC hdc
      have hall : ∀ i, i < ops.size → listed.getD i false = true := fun i hi => by
        have hm : ¬ false ∈ listed.toList := fun h => by
          have := List.count_pos_iff.2 h
          omega
        have hi' : i < listed.size := by omega
        by_cases hbi : listed[i] = true
        · simp [hi', hbi]
        · exfalso
          have e : listed[i] = false := by simpa using hbi
          exact hm (by rw [← e]; simp)
      refine ⟨?_, by rw [part_all hall]; exact hend _ _ hall hC⟩
      refine List.eq_nil_iff_forall_not_mem.2 fun i hi => ?_
      rw [mem_ready] at hi
      obtain ⟨h0, o, ho, _⟩ := hi
      have h1 := hall i (Array.getElem?_eq_some_iff.1 ho).1
      have hi' : i < listed.size := by have := (Array.getElem?_eq_some_iff.1 ho).1; omega
      simp [hi'] at h0 h1
      rw [h0] at h1
      cases h1
    | succ fuel ih =>
      intro listed w hl hc hC hdc
      refine ⟨fun hr => by rw [part_all (fin listed hl hr)]; exact hend _ _ (fin listed hl hr) hC, fun i hi => ?_⟩
      rw [mem_ready] at hi
      obtain ⟨h0, o, ho, haft⟩ := hi
      have hin := (Array.getElem?_eq_some_iff.1 ho).1
      have hi' : i < listed.size := by omega
      obtain ⟨o', ho', hgd, hsel, hread, _⟩ := hop i hin
      rw [ho] at ho'
      cases ho'
      have hLi : listed.getD i false = false := by
        simp [hi'] at h0 ⊢
        exact h0
      have hev : execOp (part ops a0 val (fun j => listed.getD j false) ops.size).eval o = execOp (canon ops a0 val i).eval o := by
        refine execOp_congr o hsel fun x hx => ?_
        cases x with
        | tmp t =>
          refine part_canon (fun i j hij => hone i j t hij) (by omega) fun j hj hd => ?_
          obtain ⟨h1, e, he, hbd, rfl⟩ := hread t hx j (by omega) hd
          exact ⟨h1, haft e he hbd⟩
        | _ => rfl
      have hstp := hstep i o (fun j => listed.getD j false) w (canon ops a0 val i).eval ho hLi hC haft hdc (fun j t hj hd ht => by
        rw [canon_part, part_at hd (fun i hi => hone i j t hi hd) rfl i hj, if_pos (by rw [hN]; exact ht)]) (fun t ht => by
        rw [canon_part, part_other i fun j hj _ => by
          have := List.all_eq_true.1 ht j (List.mem_range.2 hj)
          simpa using this]) (fun v => rfl) (fun f => rfl)
      unfold wpOp
      rw [ho]
      dsimp only
      have hw : Region.wanted o (yielded ops (part ops a0 val (fun j => listed.getD j false) ops.size).tmps) = true := by
        unfold Region.wanted
        rw [hgd]
      rw [if_pos hw]
      refine .inl ?_
      have hstp' : Gives P o (part ops a0 val (fun j => listed.getD j false) ops.size).eval w fun v w' => v = val i ∧ C (updB (fun j => listed.getD j false) i) w' := by
        unfold Gives at hstp ⊢
        rw [hev]
        exact hstp
      refine hstp'.wp fun v w' hv => ?_
      obtain ⟨rfl, hC'⟩ := hv
      have hdst : o.dst = dst ops i := by unfold dst; rw [ho]; rfl
      have hgetD : ∀ j, (listed.setIfInBounds i true).getD j false = if j = i then true else listed.getD j false := fun j => by
        by_cases e : j = i
        · subst e
          rw [if_pos rfl]
          simp [hi']
        · rw [if_neg e]
          exact getD_set_ne false (fun h => e h.symm)
      rw [hdst, part_set hone hLi hin, part_congr (L' := fun j => (listed.setIfInBounds i true).getD j false) (ρ' := val) (fun j => (hgetD j).symm) (fun j _ => by unfold upd; split; rename_i e; rw [e]; rfl)]
      refine ih (listed.setIfInBounds i true) w' (by simpa using hl) ?_ ?_ ?_
      · rw [Array.toList_setIfInBounds]
        have hi2 : i < listed.toList.length := by simpa using hi'
        have e : listed.toList[i] = false := by
          simp [hi'] at h0
          simpa using h0
        have hpos : 0 < listed.toList.count false := List.count_pos_iff.2 (by rw [← e]; exact List.getElem_mem hi2)
        rw [List.count_set hi2, e, if_pos (by decide), if_neg (by decide)]
        omega
      · have e : (fun j => (listed.setIfInBounds i true).getD j false) = updB (fun j => listed.getD j false) i := funext fun j => by rw [hgetD]; rfl
        rw [e]
        exact hC'
      · intro j o' hj hjl e he hbe
        rw [hgetD] at hjl ⊢
        by_cases e1 : e.on = i
        · rw [if_pos e1]
        · rw [if_neg e1]
          by_cases e2 : j = i
          · subst e2
            rw [ho] at hj
            cases hj
            exact haft e he hbe
          · rw [if_neg e2] at hjl
            exact hdc j o' hj hjl e he hbe
  have hnone : ∀ j, (Array.replicate ops.size false).getD j false = false := fun j => by by_cases hk : j < ops.size <;> simp [hk]
  have h0 : part ops a0 val (fun j => (Array.replicate ops.size false).getD j false) ops.size = a0 := by
    have : ∀ k, part ops a0 val (fun j => (Array.replicate ops.size false).getD j false) k = a0 := by
      intro k
      induction k with
      | zero => rfl
      | succ k ih =>
        unfold part
        rw [ih, hnone k, if_neg (by decide)]
    exact this _
  have hk := key ops.size (Array.replicate ops.size false) w0 (by simp) (by simp) (by rw [show (fun j => (Array.replicate ops.size false).getD j false) = fun _ => false from funext hnone]; exact h00) (fun j o' _ h => by rw [hnone j] at h; cases h)
  rw [h0] at hk
  exact hk

end AnyOrd

end Go.Proofs.YtalfpbalekbinaaGreat
