/-
  A forest held against a graph, in memory; its lengths, its parents.
-/
import Derived.Test.YtponmjipbcmlhaaMgD
import Derived.Test.YtponmjipbcmlhaaDfFor
import Derived.Deep.RegionHeld3
import Derived.Deep.QuietTactic
import Derived.BigQuiet
namespace Go.Proofs.Ytponmjipbcmlhaa
open Go.RowKit

theorem bel_a {w V : World} (h : Below w.heap.size w V) (o : Obj) : Below w.heap.size w (V.alloc o) := h.alloc h.size o
theorem bel_d {w V : World} (h : Below w.heap.size w V) : Below w.heap.size w V.drew := h.drew

/-- The cells of a reading. -/
abbrev rcells (av : Value) (f : For) (s : Df.St) (pv bv : Value) : Array Value := #[av, .slice f.a1 s.par.length f.c1, .slice f.a2 s.hei.length f.c2, .slice f.a3 s.ord.length f.c3, .slice f.a4 s.ori.length f.c4, pv, bv]

/-- Block p holds the forest against the Adj av; it was laid since w0. -/
structure ReadAt (w0 w : World) (p : Nat) (av : Value) (f : For) (s : Df.St) (pv bv : Value) : Prop where
  bel : Below w0.heap.size w0 w
  blk : w.heap[p]? = some (.cells (rcells av f s pv bv) 75 (0, 0))
  lo : w0.heap.size ≤ p

section
variable {w0 w w' : World} {p : Nat} {av : Value} {f : For} {s : Df.St} {pv bv : Value} {n : Nat} {es : List (Int × Int)}
theorem ReadAt.c0 (h : ReadAt w0 w p av f s pv bv) : w.cell? ⟨p, 0, none⟩ = some av := by simp [World.cell?, h.blk]
theorem ReadAt.c1 (h : ReadAt w0 w p av f s pv bv) : w.cell? ⟨p, 1, none⟩ = some (.slice f.a1 s.par.length f.c1) := by simp [World.cell?, h.blk]
theorem ReadAt.c2 (h : ReadAt w0 w p av f s pv bv) : w.cell? ⟨p, 2, none⟩ = some (.slice f.a2 s.hei.length f.c2) := by simp [World.cell?, h.blk]
theorem ReadAt.c3 (h : ReadAt w0 w p av f s pv bv) : w.cell? ⟨p, 3, none⟩ = some (.slice f.a3 s.ord.length f.c3) := by simp [World.cell?, h.blk]
theorem ReadAt.c4 (h : ReadAt w0 w p av f s pv bv) : w.cell? ⟨p, 4, none⟩ = some (.slice f.a4 s.ori.length f.c4) := by simp [World.cell?, h.blk]
theorem ReadAt.c5 (h : ReadAt w0 w p av f s pv bv) : w.cell? ⟨p, 5, none⟩ = some pv := by simp [World.cell?, h.blk]
theorem ReadAt.c6 (h : ReadAt w0 w p av f s pv bv) : w.cell? ⟨p, 6, none⟩ = some bv := by simp [World.cell?, h.blk]
theorem ReadAt.free (h : ReadAt w0 w p av f s pv bv) (i : Nat) : w.frozen? ⟨p, i, none⟩ = false := by simp [World.frozen?, h.blk]
theorem ReadAt.lt (h : ReadAt w0 w p av f s pv bv) : p < w.heap.size := lt_of_block h.blk
theorem ReadAt.later (h : ReadAt w0 w p av f s pv bv) (hb : Below w.heap.size w w') : ReadAt w0 w' p av f s pv bv := ⟨h.bel.trans (hb.mono h.bel.size), (hb.block p h.lt).trans h.blk, h.lo⟩
theorem ReadAt.drewN (h : ReadAt w0 w p av f s pv bv) (k : Nat) : ReadAt w0 (w.drewN k) p av f s pv bv := h.later (below_drewN (Below.refl _ _) k)

/-- A number of one of the lists. -/
theorem lst_at {w : World} {ao : Option Addr} {k ca : Nat} {l : List Int} (h : Lst w ao k ca l) {i : Nat} (hi : i < k) : ∃ b o, ao = some ⟨b, o, none⟩ ∧ w.cell? ⟨b, o + i, none⟩ = some (.int .i64 (l.getD i (-1))) := h.ints i _ (getD_of (-1) (by rw [h.len]; exact hi))

set_option maxRecDepth 100000 in
set_option maxHeartbeats 4000000 in
theorem rdVertex_any (x : Int) (hadj : IsAdj w0 av n es) (h : ReadAt w0 w p av f s pv bv) :
    Calls Try.prog 30 #[.pointer (some ⟨p, 0, none⟩), .int .i64 x] w fun e w' => e = .returned (.bool (decide (0 ≤ x ∧ x < (n : Int)))) ∧ w' = w := by
  have c0 := h.c0
  have HN := Nu.hid (aN_any av n es w (hadj.later h.bel))
  clear h hadj
  by_cases h0 : 0 ≤ x
  · have hd : decide (0 ≤ x ∧ x < (n : Int)) = decide (x < (n : Int)) := by simp [h0]
    rw [hd]
    go_enter Try.func30, Try.ntmps30
    go_wp2_with (go_at_call 39; refine HN.out.mono ?_; rintro e w1 ⟨rfl, rfl⟩)
    go_ret
    exact ⟨rfl, rfl⟩
  · have hd : decide (0 ≤ x ∧ x < (n : Int)) = false := by simp [h0]
    rw [hd]
    go_enter Try.func30, Try.ntmps30
    go_wp2_with (go_at_call 39; refine HN.out.mono ?_; rintro e w1 ⟨rfl, rfl⟩)
    go_ret
    exact ⟨rfl, rfl⟩

set_option maxRecDepth 100000 in
set_option maxHeartbeats 8000000 in
theorem lengths_any (hadj : IsAdj w0 av n es) (h : ReadAt w0 w p av f s pv bv) :
    Calls Try.prog 43 #[.pointer (some ⟨p, 0, none⟩)] w fun e w' => ∃ b, e = .returned (.bool b) ∧ (b = true ↔ Df.Lens n es s) ∧ Below w.heap.size w w' := by
  have hav : ∃ q, av = .pointer q := by
    rcases hadj with ⟨h, _⟩ | ⟨_, p, h, _⟩
    · exact ⟨_, h⟩
    · exact ⟨_, h⟩
  obtain ⟨q, rfl⟩ := hav
  obtain ⟨a1, a2, a3, a4, c1, c2, c3, c4⟩ := f
  have HS : Hid (∀ V, Below w.heap.size w V → V.cell? ⟨p, 0, none⟩ = some (.pointer q) ∧ V.cell? ⟨p, 1, none⟩ = some (.slice a1 s.par.length c1) ∧ V.cell? ⟨p, 2, none⟩ = some (.slice a2 s.hei.length c2) ∧ V.cell? ⟨p, 3, none⟩ = some (.slice a3 s.ord.length c3) ∧ V.cell? ⟨p, 4, none⟩ = some (.slice a4 s.ori.length c4)) := fun V hV => by
    have := h.later hV
    exact ⟨this.c0, this.c1, this.c2, this.c3, this.c4⟩
  have HN : Hid (∀ V, Below w.heap.size w V → Calls Try.prog 39 #[.pointer q] V fun e V' => e = .returned (.int .i64 (n : Int)) ∧ V' = V) := fun V hV => aN_any _ n es V (hadj.later (h.later hV).bel)
  have HM : Hid (∀ V, Below w.heap.size w V → Calls Try.prog 54 #[.pointer q] V fun e V' => e = .returned (.int .i64 (es.length : Int)) ∧ V' = V) := fun V hV => aM_any _ n es V (hadj.later (h.later hV).bel)
  have hbd : Below w.heap.size w w.drew := (Below.refl _ _).drew
  have hlp := h.lt
  obtain ⟨m, hm⟩ : ∃ m, es.length = m := ⟨_, rfl⟩
  obtain ⟨l1, h1⟩ : ∃ l, s.par.length = l := ⟨_, rfl⟩
  obtain ⟨l2, h2⟩ : ∃ l, s.hei.length = l := ⟨_, rfl⟩
  obtain ⟨l3, h3⟩ : ∃ l, s.ord.length = l := ⟨_, rfl⟩
  obtain ⟨l4, h4⟩ : ∃ l, s.ori.length = l := ⟨_, rfl⟩
  have hL : Df.Lens n es s ↔ (l1 = n ∧ l2 = n ∧ l3 = n ∧ l4 = m) := by unfold Df.Lens; rw [h1, h2, h3, h4, hm]
  rw [hm] at HM
  rw [h1, h2, h3, h4] at HS
  have HL := Nu.hid hL
  clear h hadj hm h1 h2 h3 h4 hL
  go_enter Try.func43, Try.ntmps43
  go_wp2_with fail
  go_region_held3 (fun V => V.cell? ⟨p, 0, none⟩ = some (.pointer q) ∧ V.cell? ⟨p, 1, none⟩ = some (.slice a1 l1 c1) ∧ V.cell? ⟨p, 2, none⟩ = some (.slice a2 l2 c2) ∧ V.cell? ⟨p, 3, none⟩ = some (.slice a3 l3 c3) ∧ V.cell? ⟨p, 4, none⟩ = some (.slice a4 l4 c4))
    (exact HS.out _ (by repeat (first | assumption | exact Below.refl _ _ | with_reducible refine bel_d ?_ | with_reducible refine bel_a ?_ _)))
    ((first
      | (go_at_call 39; refine (HN.out _ (by repeat (first | assumption | exact Below.refl _ _ | with_reducible refine bel_d ?_ | with_reducible refine bel_a ?_ _))).mono ?_; rintro e V1 ⟨rfl, rfl⟩)
      | (go_at_call 54; refine (HM.out _ (by repeat (first | assumption | exact Below.refl _ _ | with_reducible refine bel_d ?_ | with_reducible refine bel_a ?_ _))).mono ?_; rintro e V1 ⟨rfl, rfl⟩)))
  all_goals
    have hbz : Below w.heap.size w (w.alloc (.cells #[.slice a1 l1 c1, .slice a2 l2 c2, .slice a3 l3 c3, .slice a4 l4 c4] 28)).drew := bel_d (bel_a (Below.refl _ _) _)
    have HBZ := Nu.hid hbz
    clear hbz HS HN HM
    by_cases e1 : l1 = n
    · have t1 : ((l1 : Int) == (n : Int)) = true := by simp only [beq_iff_eq]; omega
      have E1 := Nu.hid e1
      clear e1
      by_cases e2 : l2 = n
      · have t2 : ((l2 : Int) == (n : Int)) = true := by simp only [beq_iff_eq]; omega
        have E2 := Nu.hid e2
        clear e2
        by_cases e3 : l3 = n
        · have t3 : ((l3 : Int) == (n : Int)) = true := by simp only [beq_iff_eq]; omega
          have E3 := Nu.hid e3
          clear e3
          by_cases e4 : l4 = m
          · have t4 : ((l4 : Int) == (m : Int)) = true := by simp only [beq_iff_eq]; omega
            have E4 := Nu.hid e4
            clear e4
            go_wp2
            go_ret
            exact ⟨true, rfl, by rw [HL.out]; exact ⟨fun _ => ⟨E1.out, E2.out, E3.out, E4.out⟩, fun _ => rfl⟩, HBZ.out⟩
          · have t4 : ((l4 : Int) == (m : Int)) = false := by simp only [beq_eq_false_iff_ne, ne_eq]; omega
            have E4 := Nu.hid e4
            clear e4
            go_wp2
            go_ret
            exact ⟨false, rfl, by rw [HL.out]; exact ⟨fun h => (by cases h), fun h => absurd h.2.2.2 E4.out⟩, HBZ.out⟩
        · have t3 : ((l3 : Int) == (n : Int)) = false := by simp only [beq_eq_false_iff_ne, ne_eq]; omega
          have E3 := Nu.hid e3
          clear e3
          go_wp2
          go_ret
          exact ⟨false, rfl, by rw [HL.out]; exact ⟨fun h => (by cases h), fun h => absurd h.2.2.1 E3.out⟩, HBZ.out⟩
      · have t2 : ((l2 : Int) == (n : Int)) = false := by simp only [beq_eq_false_iff_ne, ne_eq]; omega
        have E2 := Nu.hid e2
        clear e2
        go_wp2
        go_ret
        exact ⟨false, rfl, by rw [HL.out]; exact ⟨fun h => (by cases h), fun h => absurd h.2.1 E2.out⟩, HBZ.out⟩
    · have t1 : ((l1 : Int) == (n : Int)) = false := by simp only [beq_eq_false_iff_ne, ne_eq]; omega
      have E1 := Nu.hid e1
      clear e1
      go_wp2
      go_ret
      exact ⟨false, rfl, by rw [HL.out]; exact ⟨fun h => (by cases h), fun h => absurd h.1 E1.out⟩, HBZ.out⟩
end

end Go.Proofs.Ytponmjipbcmlhaa
