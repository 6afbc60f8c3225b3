/-
  BucketSorts' own key: it asks whether the item is the next one, and counts.
-/
import Derived.Test.YtofphdmebjcofaaDoorBuItem
import Derived.Deep.RegionHeld3
import Derived.Deep.QuietTactic
import Derived.BigQuiet
import Derived.BigRegion
namespace Go.Proofs.YtofphdmebjcofaaDoor
open Go.RowKit

/-- 'right' is true, 'asked' is a, 'items' holds the list l. -/
structure Ask (R K I : Nat) (io : Option Addr) (ic : Nat) (l : List Item) (a : Nat) (W : World) : Prop where
  right : W.heap[R]? = some (.cells #[.bool true] 4 (0, 0))
  asked : W.heap[K]? = some (.cells #[.int .i64 (a : Int)] 3 (0, 0))
  box : W.cell? ⟨I, 0, none⟩ = some (.slice io l.length ic)
  items : ItemsAt W io l
  far : R ≠ K ∧ I ≠ R ∧ I ≠ K
  apart : ∀ x, io = some x → x.block ≠ R ∧ x.block ≠ K

theorem Ask.later {R K I : Nat} {io : Option Addr} {ic : Nat} {l : List Item} {a : Nat} {W W' : World} (h : Ask R K I io ic l a W) (hb : Below W.heap.size W W') : Ask R K I io ic l a W' :=
  ⟨(hb.block R (lt_of_block h.right)).trans h.right, (hb.block K (lt_of_block h.asked)).trans h.asked, (hb.cell (p := ⟨I, 0, none⟩) (block_lt_of_cell h.box)).trans h.box, h.items.later hb, h.far, h.apart⟩

/-- A store of what lies there changes nothing. -/
theorem setCell_id {W : World} {R : Nat} {v : Value} {t : TypeId} (h : W.heap[R]? = some (.cells #[v] t (0, 0))) : W.setCell ⟨R, 0, none⟩ v = W := by
  have hl := lt_of_block h
  have e : (W.setCell ⟨R, 0, none⟩ v).heap = W.heap := by
    refine Array.ext_getElem? fun k => ?_
    by_cases hk : k = R
    · subst hk
      rw [heap_setCell_same W k 0 _ _ v h, h]
      rfl
    · rw [heap_setCell_other W ⟨R, 0, none⟩ k v hk]
  cases W
  simp only [World.setCell] at e ⊢
  simp_all

set_option maxRecDepth 100000 in
set_option maxHeartbeats 4000000 in
theorem ask_any (R K I : Nat) (io : Option Addr) (ic : Nat) (l : List Item) (a : Nat) (p : Item) (w : World) (h : Ask R K I io ic l a w) (hp : l[a]? = some p) (hl : l.length ≤ 2000000) :
    Calls Tryd.prog 7 #[.agg #[.int .i64 p.1, .string p.2], .pointer (some ⟨R, 0, none⟩), .pointer (some ⟨K, 0, none⟩), .pointer (some ⟨I, 0, none⟩)] w fun e w' =>
      e = .returned (.int .i64 p.1) ∧ Ask R K I io ic l (a + 1) w' ∧ Wrote (fun b => b = R ∨ b = K) w w' := by
  obtain ⟨b, o, hio, c0, c1⟩ := h.items a p hp
  have hal := (List.getElem?_eq_some_iff.1 hp).1
  have heq := eqItem p.1 p.2
  obtain ⟨n, hn⟩ : ∃ n, l.length = n := ⟨_, rfl⟩
  have hbox := h.box
  rw [hn] at hbox hal hl
  have a0 : (0 : Int) ≤ (a : Int) := by omega
  have a1 : (a : Int) < (n : Int) := by omega
  obtain ⟨p1, p2⟩ := p
  dsimp only at c0 c1 heq ⊢
  obtain ⟨hRK, hIR, hIK⟩ := h.far
  obtain ⟨hbR, hbK⟩ := h.apart _ hio
  dsimp only at hbR hbK
  -- the world with the item's own box, and what lies in it
  obtain ⟨V0, hV0⟩ : ∃ V0, V0 = w.alloc (.cells #[.int .i64 p1, .string p2] 27) := ⟨_, rfl⟩
  have hb0 : Below w.heap.size w V0 := by rw [hV0]; exact (Below.refl _ _).alloc (Nat.le_refl _) _
  have hnew : V0.heap[w.heap.size]? = some (.cells #[.int .i64 p1, .string p2] 27 (0, 0)) := by rw [hV0]; exact heap_alloc_new w _
  have h0 := h.later hb0
  have hRl := lt_of_block h.right
  have hKl := lt_of_block h.asked
  have e0 : ∀ k, (V0.drewN k).cell? ⟨w.heap.size, 0, none⟩ = some (.int .i64 p1) ∧ (V0.drewN k).cell? ⟨w.heap.size, 1, none⟩ = some (.string p2) ∧ (V0.drewN k).cell? ⟨R, 0, none⟩ = some (.bool true) ∧ (V0.drewN k).frozen? ⟨R, 0, none⟩ = false ∧ (V0.drewN k).cell? ⟨K, 0, none⟩ = some (.int .i64 (a : Int)) ∧ (V0.drewN k).cell? ⟨I, 0, none⟩ = some (.slice (some ⟨b, o, none⟩) n ic) ∧ (V0.drewN k).cell? ⟨b, o + a * 2, none⟩ = some (.int .i64 p1) ∧ (V0.drewN k).cell? ⟨b, o + a * 2 + 1, none⟩ = some (.string p2) := fun k => by
    refine ⟨by simp [World.cell?, hnew], by simp [World.cell?, hnew], by simp [World.cell?, h0.right], by simp [World.frozen?, h0.right], by simp [World.cell?, h0.asked], ?_, ?_, ?_⟩
    · have := (hb0.cell (p := ⟨I, 0, none⟩) (block_lt_of_cell hbox)).trans hbox
      rw [hio] at this
      exact this
    · exact (hb0.cell (p := ⟨b, o + a * 2, none⟩) (block_lt_of_cell c0)).trans c0
    · exact (hb0.cell (p := ⟨b, o + a * 2 + 1, none⟩) (block_lt_of_cell c1)).trans c1
  have hfin : ∀ k, Ask R K I io ic l (a + 1) ((V0.drewN k).setCell ⟨K, 0, none⟩ (.int .i64 ((a : Int) + 1))) ∧ Wrote (fun b => b = R ∨ b = K) w ((V0.drewN k).setCell ⟨K, 0, none⟩ (.int .i64 ((a : Int) + 1))) := fun k => by
    have hD := h0.later (below_drewN (Below.refl _ _) k)
    have hoth : ∀ k', k' ≠ K → ((V0.drewN k).setCell ⟨K, 0, none⟩ (.int .i64 ((a : Int) + 1))).heap[k']? = (V0.drewN k).heap[k']? := fun k' h2 => heap_setCell_other _ ⟨K, 0, none⟩ k' _ h2
    refine ⟨⟨?_, ?_, ?_, ?_, h.far, h.apart⟩, ?_⟩
    · rw [hoth R hRK]
      exact hD.right
    · rw [heap_setCell_same _ K 0 _ _ _ hD.asked]
      rfl
    · rw [← hD.box]
      simp only [World.cell?]
      rw [hoth I hIK]
    · exact hD.items.same fun x hx _ => hoth _ (h.apart x hx).2
    · exact (((Wrote.refl _ w).later hb0).drewN k).setCell (.inr rfl) _
  have hset : (∃ k, (V0.setCell ⟨R, 0, none⟩ (.bool true)).drew = V0.drewN k) ∧ (V0.setCell ⟨R, 0, none⟩ (.bool true)).drew.cell? ⟨w.heap.size, 0, none⟩ = some (.int .i64 p1) ∧ (V0.setCell ⟨R, 0, none⟩ (.bool true)).drew.cell? ⟨w.heap.size, 1, none⟩ = some (.string p2) ∧ (V0.setCell ⟨R, 0, none⟩ (.bool true)).drew.cell? ⟨R, 0, none⟩ = some (.bool true) ∧ (V0.setCell ⟨R, 0, none⟩ (.bool true)).drew.frozen? ⟨R, 0, none⟩ = false ∧ (V0.setCell ⟨R, 0, none⟩ (.bool true)).drew.cell? ⟨K, 0, none⟩ = some (.int .i64 (a : Int)) ∧ (V0.setCell ⟨R, 0, none⟩ (.bool true)).drew.cell? ⟨I, 0, none⟩ = some (.slice (some ⟨b, o, none⟩) n ic) ∧ (V0.setCell ⟨R, 0, none⟩ (.bool true)).drew.cell? ⟨b, o + a * 2, none⟩ = some (.int .i64 p1) ∧ (V0.setCell ⟨R, 0, none⟩ (.bool true)).drew.cell? ⟨b, o + a * 2 + 1, none⟩ = some (.string p2) := by
    rw [setCell_id h0.right]
    exact ⟨⟨1, rfl⟩, e0 1⟩
  have hk2 : ∀ k, (V0.drewN k).frozen? ⟨K, 0, none⟩ = false ∧ ((V0.drewN k).setCell ⟨K, 0, none⟩ (.int .i64 ((a : Int) + 1))).cell? ⟨w.heap.size, 0, none⟩ = some (.int .i64 p1) := fun k => by
    refine ⟨by simp [World.frozen?, h0.asked], ?_⟩
    have s3 : ((V0.drewN k).setCell ⟨K, 0, none⟩ (.int .i64 ((a : Int) + 1))).heap[w.heap.size]? = _ := (heap_setCell_other _ ⟨K, 0, none⟩ w.heap.size _ (by show w.heap.size ≠ K; omega)).trans hnew
    simp [World.cell?, s3]
  have HFIN := Nu.hid hfin
  have HE0 : Hid ((∃ k, V0.drew = V0.drewN k) ∧ V0.drew.cell? ⟨w.heap.size, 0, none⟩ = some (.int .i64 p1) ∧ V0.drew.cell? ⟨w.heap.size, 1, none⟩ = some (.string p2) ∧ V0.drew.cell? ⟨R, 0, none⟩ = some (.bool true) ∧ V0.drew.frozen? ⟨R, 0, none⟩ = false ∧ V0.drew.cell? ⟨K, 0, none⟩ = some (.int .i64 (a : Int)) ∧ V0.drew.cell? ⟨I, 0, none⟩ = some (.slice (some ⟨b, o, none⟩) n ic) ∧ V0.drew.cell? ⟨b, o + a * 2, none⟩ = some (.int .i64 p1) ∧ V0.drew.cell? ⟨b, o + a * 2 + 1, none⟩ = some (.string p2)) := ⟨⟨1, rfl⟩, e0 1⟩
  have HV0 := Nu.hid hV0
  have HSET := Nu.hid hset
  have HK2 := Nu.hid hk2
  have HRT := Nu.hid h0.right
  have HE1 := Nu.hid e0
  clear h h0 hp hn c0 c1 hbox hb0 hnew hfin e0 hk2 hV0 hset
  subst hio
  go_enter Tryd.func7, Tryd.ntmps7
  go_wp2_with fail
  rw [← HV0.out]
  go_region_held3 (fun V => (∃ k, V = V0.drewN k) ∧ V.cell? ⟨w.heap.size, 0, none⟩ = some (.int .i64 p1) ∧ V.cell? ⟨w.heap.size, 1, none⟩ = some (.string p2) ∧ V.cell? ⟨R, 0, none⟩ = some (.bool true) ∧ V.frozen? ⟨R, 0, none⟩ = false ∧ V.cell? ⟨K, 0, none⟩ = some (.int .i64 (a : Int)) ∧ V.cell? ⟨I, 0, none⟩ = some (.slice (some ⟨b, o, none⟩) n ic) ∧ V.cell? ⟨b, o + a * 2, none⟩ = some (.int .i64 p1) ∧ V.cell? ⟨b, o + a * 2 + 1, none⟩ = some (.string p2))
    (first | exact HE0.out | exact HSET.out)
    (fail)
  all_goals
    rw [setCell_id HRT.out]
    have f0 : V0.frozen? ⟨K, 0, none⟩ = false := (HK2.out 0).1
    have f1 : (V0.setCell ⟨K, 0, none⟩ (.int .i64 ((a : Int) + 1))).cell? ⟨w.heap.size, 0, none⟩ = some (.int .i64 p1) := (HK2.out 0).2
    have g0 : V0.cell? ⟨K, 0, none⟩ = some (.int .i64 (a : Int)) := (HE1.out 0).2.2.2.2.1
    go_wp2
    go_ret
    exact ⟨rfl, HFIN.out 1⟩

end Go.Proofs.YtofphdmebjcofaaDoor
