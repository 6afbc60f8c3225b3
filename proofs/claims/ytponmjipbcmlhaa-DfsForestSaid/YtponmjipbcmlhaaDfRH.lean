/-
  The document's rooted and hangs.
-/
import Derived.Test.YtponmjipbcmlhaaDfRUp
import Derived.Test.YtponmjipbcmlhaaDfRp
namespace Go.Proofs.Ytponmjipbcmlhaa
open Go.RowKit

/-- The boxes of a graph and a forest, laid since w. -/
structure BxAt (w W : World) (n : Nat) (ao : Option Addr) (ca : Nat) (es : List (Int × Int)) (f : For) (s : Df.St) : Prop where
  bel : Below w.heap.size w W
  g : W.heap[w.heap.size]? = some (.cells #[.int .i64 n, .slice ao es.length ca] 24 (0, 0))
  k : W.heap[w.heap.size + 1]? = some (.cells #[.slice f.a1 s.par.length f.c1, .slice f.a2 s.hei.length f.c2, .slice f.a3 s.ord.length f.c3, .slice f.a4 s.ori.length f.c4] 28 (0, 0))

abbrev bxw (w : World) (n : Nat) (ao : Option Addr) (ca : Nat) (es : List (Int × Int)) (f : For) (s : Df.St) : World := (w.alloc (.cells #[.int .i64 n, .slice ao es.length ca] 24)).alloc (.cells #[.slice f.a1 s.par.length f.c1, .slice f.a2 s.hei.length f.c2, .slice f.a3 s.ord.length f.c3, .slice f.a4 s.ori.length f.c4] 28)

section
variable {w W V : World} {n : Nat} {ao : Option Addr} {ca : Nat} {es : List (Int × Int)} {f : For} {s : Df.St}
theorem BxAt.new : BxAt w (bxw w n ao ca es f s) n ao ca es f s := by
  refine ⟨((Below.refl _ _).alloc (Nat.le_refl _) _).alloc (by simp) _, ?_, ?_⟩
  · rw [Below.heap_alloc _ _ _ (by simp)]
    exact heap_alloc_new w _
  · exact alloc_at (by simp)
theorem BxAt.later (h : BxAt w W n ao ca es f s) (hb : Below W.heap.size W V) : BxAt w V n ao ca es f s := ⟨h.bel.trans (hb.mono h.bel.size), (hb.block _ (lt_of_block h.g)).trans h.g, (hb.block _ (lt_of_block h.k)).trans h.k⟩
theorem BxAt.x0 (h : BxAt w W n ao ca es f s) : W.cell? ⟨w.heap.size, 0, none⟩ = some (.int .i64 n) := (pair_cells h.g).1
theorem BxAt.x1 (h : BxAt w W n ao ca es f s) : W.cell? ⟨w.heap.size, 1, none⟩ = some (.slice ao es.length ca) := (pair_cells h.g).2.1
theorem BxAt.k0 (h : BxAt w W n ao ca es f s) : W.cell? ⟨w.heap.size + 1, 0, none⟩ = some (.slice f.a1 s.par.length f.c1) := (four_cells h.k).1
theorem BxAt.k1 (h : BxAt w W n ao ca es f s) : W.cell? ⟨w.heap.size + 1, 1, none⟩ = some (.slice f.a2 s.hei.length f.c2) := (four_cells h.k).2.1
theorem BxAt.k2 (h : BxAt w W n ao ca es f s) : W.cell? ⟨w.heap.size + 1, 2, none⟩ = some (.slice f.a3 s.ord.length f.c3) := (four_cells h.k).2.2.1
theorem BxAt.k3 (h : BxAt w W n ao ca es f s) : W.cell? ⟨w.heap.size + 1, 3, none⟩ = some (.slice f.a4 s.ori.length f.c4) := (four_cells h.k).2.2.2.1
theorem BxAt.drew (h : BxAt w W n ao ca es f s) : BxAt w W.drew n ao ca es f s := h.later (Below.refl _ _).drew
theorem BxAt.drewN (h : BxAt w W n ao ca es f s) (k : Nat) : BxAt w (W.drewN k) n ao ca es f s := h.later (below_drewN (Below.refl _ _) k)

/-- One vertex, as rooted asks. -/
abbrev rok (n : Nat) (s : Df.St) (v : Nat) : Prop := 0 ≤ Df.at_ s.hei v ∧ Df.at_ s.hei v < (n : Int) ∧ (Df.at_ s.hei v = 0 ↔ Df.at_ s.par v = -1)

set_option maxRecDepth 100000 in
set_option maxHeartbeats 8000000 in
theorem rrooted_any (hF : LstF w f s) (hL : Df.Lens n es s) :
    Calls Try.prog 33 #[.agg #[.int .i64 (n : Int), .slice ao es.length ca], f.val s] w (BoolPost (Df.Rooted n s) w) := by
  obtain ⟨l1, l2, l3, l4⟩ := hL
  have hn1 := hF.n1
  obtain ⟨W, hW⟩ : ∃ W, W = bxw w n ao ca es f s := ⟨_, rfl⟩
  have hbx : BxAt w W n ao ca es f s := by rw [hW]; exact BxAt.new
  have HBX := Nu.hid hbx
  have HF : Hid (∀ V, BxAt w V n ao ca es f s → LstF V f s) := fun V hV => hF.later hV.bel
  obtain ⟨a1, a2, a3, a4, c1, c2, c3, c4⟩ := f
  unfold For.val
  dsimp only
  unfold bxw at hW
  dsimp only at hW
  rw [l1] at hn1
  rw [l1, l2, l3, l4] at hW ⊢
  have HW := Nu.hid hW
  clear hF hW hbx
  go_enter Try.func33, Try.ntmps33
  go_wp2_with fail
  rw [← HW.out]
  go_loopw [5] (fun c wr => ∃ k : Nat, k ≤ n ∧ c = .int .i64 k ∧ (∀ v, v < k → rok n s v) ∧ BxAt w wr n ao ca es ⟨a1, a2, a3, a4, c1, c2, c3, c4⟩ s) (fun c _ => n - (intOf c).toNat)
  case atStart => exact ⟨0, Nat.zero_le _, rfl, fun v hv => (by omega), HBX.out⟩
  case round =>
    obtain ⟨k, hk, rfl, hall, hb⟩ := hrel
    have HALL := Nu.hid hall
    have HB := Nu.hid hb
    have x0 := hb.x0
    have k0 := hb.k0
    have k1 := hb.k1
    dsimp only at k0 k1
    rw [l1] at k0
    rw [l2] at k1
    by_cases hlt : k < n
    · have hFw := HF.out wr hb
      obtain ⟨b1, o1, e1, d1⟩ := lst_at hFw.l1 (i := k) (by omega)
      obtain ⟨b2, o2, e2, d2⟩ := lst_at hFw.l2 (i := k) (by omega)
      dsimp only at e1 e2
      subst e1
      subst e2
      obtain ⟨x, hx⟩ : ∃ x, s.par.getD k (-1) = x := ⟨_, rfl⟩
      obtain ⟨y, hy⟩ : ∃ y, s.hei.getD k (-1) = y := ⟨_, rfl⟩
      rw [hx] at d1
      rw [hy] at d2
      have HQ : Hid (rok n s k ↔ 0 ≤ y ∧ y < (n : Int) ∧ (y = 0 ↔ x = -1)) := by
        show (0 ≤ s.hei.getD k (-1) ∧ s.hei.getD k (-1) < (n : Int) ∧ (s.hei.getD k (-1) = 0 ↔ s.par.getD k (-1) = -1)) ↔ _
        rw [hx, hy]
      have v1 : (k : Int) < (n : Int) := by omega
      have v0 : (0 : Int) ≤ (k : Int) := by omega
      have HLT := Nu.hid hlt
      clear hFw hb hall hx hy
      by_cases hy0 : 0 ≤ y
      · have hy0' : ¬ y < 0 := by omega
        by_cases hyn : y < (n : Int)
        · by_cases hya : y = 0 <;> by_cases hxa : x = -1
          · have HX := Nu.hid (And.intro hya hxa)
            have HY := Nu.hid (And.intro hy0 hyn)
            have t1 : (y == 0) = true := by simp [hya]
            have t2 : (x == -1) = true := by simp [hxa]
            have t0 : decide ((n : Int) ≤ y) = false := by simp; omega
            have t0' : decide (y < 0) = false := by simp; omega
            clear hlt hya hxa hy0 hyn hy0'
            go_wp2_with fail
            go_quiet (fail)
            go_wp2
            go_roundw
            case rel =>
              refine ⟨k + 1, by have := HLT.out; omega, by go_num, fun v hv => ?_, HB.out.drewN _⟩
              by_cases e : v = k
              · rw [e]; exact HQ.out.2 (by have h1 := HX.out; have h2 := HY.out; omega)
              · exact HALL.out v (by omega)
            case measure => simp [intOf]; omega
          · have HX := Nu.hid (And.intro hya hxa)
            have HY := Nu.hid (And.intro hy0 hyn)
            have t1 : (y == 0) = true := by simp [hya]
            have t2 : (x == -1) = false := by simp [hxa]
            have t0 : decide ((n : Int) ≤ y) = false := by simp; omega
            have t0' : decide (y < 0) = false := by simp; omega
            clear hlt hya hxa hy0 hyn hy0'
            go_wp2_with fail
            go_quiet (fail)
            go_wp2
            go_ret
            exact ⟨false, rfl, ⟨fun h => (by cases h), fun h => (by have h1 := HQ.out.1 (h k HLT.out); have h2 := HX.out; omega)⟩, (HB.out.drewN _).bel⟩
          · have HX := Nu.hid (And.intro hya hxa)
            have HY := Nu.hid (And.intro hy0 hyn)
            have t1 : (y == 0) = false := by simp [hya]
            have t2 : (x == -1) = true := by simp [hxa]
            have t0 : decide ((n : Int) ≤ y) = false := by simp; omega
            have t0' : decide (y < 0) = false := by simp; omega
            clear hlt hya hxa hy0 hyn hy0'
            go_wp2_with fail
            go_quiet (fail)
            go_wp2
            go_ret
            exact ⟨false, rfl, ⟨fun h => (by cases h), fun h => (by have h1 := HQ.out.1 (h k HLT.out); have h2 := HX.out; omega)⟩, (HB.out.drewN _).bel⟩
          · have HX := Nu.hid (And.intro hya hxa)
            have HY := Nu.hid (And.intro hy0 hyn)
            have t1 : (y == 0) = false := by simp [hya]
            have t2 : (x == -1) = false := by simp [hxa]
            have t0 : decide ((n : Int) ≤ y) = false := by simp; omega
            have t0' : decide (y < 0) = false := by simp; omega
            clear hlt hya hxa hy0 hyn hy0'
            go_wp2_with fail
            go_quiet (fail)
            go_wp2
            go_roundw
            case rel =>
              refine ⟨k + 1, by have := HLT.out; omega, by go_num, fun v hv => ?_, HB.out.drewN _⟩
              by_cases e : v = k
              · rw [e]; exact HQ.out.2 (by have h1 := HX.out; have h2 := HY.out; omega)
              · exact HALL.out v (by omega)
            case measure => simp [intOf]; omega
        · have hyn' : y ≥ (n : Int) := by omega
          have HX := Nu.hid hyn
          have t0 : decide ((n : Int) ≤ y) = true := by simp; omega
          have t0' : decide (y < 0) = false := by simp; omega
          clear hlt hyn hy0 hyn' hy0'
          go_wp2_with fail
          go_quiet (fail)
          go_wp2
          go_ret
          exact ⟨false, rfl, ⟨fun h => (by cases h), fun h => (by have := (HQ.out.1 (h k HLT.out)).2.1; have := HX.out; omega)⟩, (HB.out.drewN _).bel⟩
      · have hy0' : y < 0 := by omega
        have HX := Nu.hid hy0
        clear hlt hy0
        go_wp2_with fail
        go_quiet (fail)
        go_wp2
        go_ret
        exact ⟨false, rfl, ⟨fun h => (by cases h), fun h => (by have := (HQ.out.1 (h k HLT.out)).1; have := HX.out; omega)⟩, (HB.out.drewN _).bel⟩
    · have hd : ¬ ((k : Int) < (n : Int)) := by omega
      have HK : Hid (k = n) := show k = n by omega
      clear hall hb
      go_wp2
      go_ret
      exact ⟨true, rfl, ⟨fun _ v hv => HALL.out v (by rw [HK.out]; exact hv), fun _ => rfl⟩, HB.out.bel⟩
end

end Go.Proofs.Ytponmjipbcmlhaa
