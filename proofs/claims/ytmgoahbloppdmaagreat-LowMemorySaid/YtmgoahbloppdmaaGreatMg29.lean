import Derived.Test.YtmgoahbloppdmaaGreatMg06
import Derived.Test.YtmgoahbloppdmaaGreatMg10
import Derived.Test.YtmgoahbloppdmaaGreatMg28
import Derived.Test.YtmgoahbloppdmaaGreatMg09
import Derived.Test.YtmgoahbloppdmaaGreatMg07
/-
  The document's up.
-/
namespace Go.Proofs.YtmgoahbloppdmaaGreat
open Go.RowKit

set_option maxRecDepth 100000 in
set_option maxHeartbeats 8000000 in
theorem rup_any (n : Nat) (ao : Option Addr) (ca : Nat) (es : List (Int × Int)) (f : For) (s : Df.St) (v : Nat) (w : World) (he : EdgesAt w ao es) (hv : Si.Val n es) (hF : LstF w f s) (hl : s.par.length = n) (hvn : v < n) (hp : Df.at_ s.par v = -1 ∨ ∃ h : Nat, h < 2 * es.length ∧ Df.at_ s.par v = (h : Int)) :
    Calls Tryz.prog 51 #[.agg #[.int .i64 (n : Int), .slice ao es.length ca], f.val s, .int .i64 (v : Int)] w fun e w' => e = .returned (.int .i64 (Df.up es s v)) ∧ Below w.heap.size w w' := by
  obtain ⟨a1, a2, a3, a4, c1, c2, c3, c4⟩ := f
  obtain ⟨W, hW⟩ : ∃ W, W = (w.alloc (.cells #[.int .i64 n, .slice ao es.length ca] 24)).alloc (.cells #[.slice a1 n c1, .slice a2 s.hei.length c2, .slice a3 s.ord.length c3, .slice a4 s.ori.length c4] 27) := ⟨_, rfl⟩
  have hB0 : Below w.heap.size w W := by rw [hW]; exact ((Below.refl _ _).alloc (Nat.le_refl _) _).alloc (by simp) _
  have g1 : W.heap[w.heap.size]? = some (.cells #[.int .i64 n, .slice ao es.length ca] 24 (0, 0)) := by
    rw [hW, Below.heap_alloc _ _ _ (by simp)]
    exact heap_alloc_new w _
  have g2 : W.heap[w.heap.size + 1]? = some (.cells #[.slice a1 n c1, .slice a2 s.hei.length c2, .slice a3 s.ord.length c3, .slice a4 s.ori.length c4] 27 (0, 0)) := by
    rw [hW]
    exact alloc_at (by simp)
  obtain ⟨b1, o1, e1, d1⟩ := lst_at (hF.later hB0).l1 (i := v) (by omega)
  dsimp only at e1
  subst e1
  obtain ⟨x, hx⟩ : ∃ x, s.par.getD v (-1) = x := ⟨_, rfl⟩
  have hxa : Df.at_ s.par v = x := hx
  rw [hx] at d1
  have hup : Df.up es s v = Cs.frI es x := by
    unfold Df.up
    rw [Int.toNat_natCast, hxa]
  rw [hup]
  rw [hxa] at hp
  unfold For.val
  dsimp only
  rw [hl]
  obtain ⟨x0, x1, -⟩ := pair_cells g1
  obtain ⟨k0, k1, k2, k3, -⟩ := four_cells g2
  have v0 : (0 : Int) ≤ (v : Int) := by omega
  have v1 : (v : Int) < (n : Int) := by omega
  have HB0 := Nu.hid hB0
  have heW := he.later hB0
  rcases hp with rfl | ⟨h, hh, rfl⟩
  · have hf : Cs.frI es (-1) = -1 := by unfold Cs.frI; rw [if_neg (by omega)]
    rw [hf]
    rw [hW] at x0 x1 k0 k1 k2 k3 d1 HB0
    clear hx hxa hup hF he hW g1 g2 heW hB0
    go_enter Tryz.func51, Tryz.ntmps51
    go_wp2
    go_ret
    exact ⟨rfl, HB0.out⟩
  · rw [Cs.frI_in hh]
    have h0 : ¬ ((h : Int) < 0) := by omega
    have HS : Hid (∀ V, Below W.heap.size W V → V.cell? ⟨w.heap.size, 0, none⟩ = some (.int .i64 n) ∧ V.cell? ⟨w.heap.size, 1, none⟩ = some (.slice ao es.length ca) ∧ V.cell? ⟨w.heap.size + 1, 0, none⟩ = some (.slice (some ⟨b1, o1, none⟩) n c1) ∧ V.cell? ⟨b1, o1 + v, none⟩ = some (.int .i64 (h : Int))) := fun V hV => by
      have lt1 := lt_of_block g1
      have lt2 := lt_of_block g2
      have lt3 := block_lt_of_cell d1
      exact ⟨(hV.cell (p := ⟨_, 0, none⟩) lt1).trans x0, (hV.cell (p := ⟨_, 1, none⟩) lt1).trans x1, (hV.cell (p := ⟨_, 0, none⟩) lt2).trans k0, (hV.cell (p := ⟨b1, _, none⟩) lt3).trans d1⟩
    have HFR : Hid (∀ V, Below W.heap.size W V → Calls Tryz.prog 50 #[.agg #[.int .i64 (n : Int), .slice ao es.length ca], .int .i64 (h : Int)] V fun e w' => e = .returned (.int .i64 (Cs.fr es h : Int)) ∧ Below V.heap.size V w') := fun V hV => r4from_any n ao ca es h V (heW.later hV) hv hh
    have HW := Nu.hid hW
    have hbd : Below W.heap.size W W.drew := (Below.refl _ _).drew
    rw [hW] at x0 x1 k0 k1 k2 k3 d1
    clear hx hxa hup hF he hW g1 g2 heW hB0
    go_enter Tryz.func51, Tryz.ntmps51
    go_wp2_with fail
    rw [← HW.out]
    go_region_held3 (fun V => V.cell? ⟨w.heap.size, 0, none⟩ = some (.int .i64 n) ∧ V.cell? ⟨w.heap.size, 1, none⟩ = some (.slice ao es.length ca) ∧ V.cell? ⟨w.heap.size + 1, 0, none⟩ = some (.slice (some ⟨b1, o1, none⟩) n c1) ∧ V.cell? ⟨b1, o1 + v, none⟩ = some (.int .i64 (h : Int)))
      (exact HS.out _ (by first | assumption | exact hbd))
      ((go_at_call 50; refine (HFR.out _ (by first | assumption | exact hbd)).mono ?_; rintro e V1 ⟨rfl, hv1⟩; have hb1 : Below W.heap.size W V1 := Below.trans (by first | assumption | exact hbd) (hv1.mono (Below.size (by first | assumption | exact hbd)))))
    all_goals
      have HB1 := Nu.hid hb1
      go_wp2
      go_ret
      exact ⟨rfl, HB0.out.trans (HB1.out.mono HB0.out.size)⟩

end Go.Proofs.YtmgoahbloppdmaaGreat

/-
  The document's rooted and hangs.
-/
namespace Go.Proofs.YtmgoahbloppdmaaGreat
open Go.RowKit

/-- The boxes of a graph and a forest, laid since w. -/
structure BxAt (w W : World) (n : Nat) (ao : Option Addr) (ca : Nat) (es : List (Int × Int)) (f : For) (s : Df.St) : Prop where
  bel : Below w.heap.size w W
  g : W.heap[w.heap.size]? = some (.cells #[.int .i64 n, .slice ao es.length ca] 24 (0, 0))
  k : W.heap[w.heap.size + 1]? = some (.cells #[.slice f.a1 s.par.length f.c1, .slice f.a2 s.hei.length f.c2, .slice f.a3 s.ord.length f.c3, .slice f.a4 s.ori.length f.c4] 27 (0, 0))

abbrev bxw (w : World) (n : Nat) (ao : Option Addr) (ca : Nat) (es : List (Int × Int)) (f : For) (s : Df.St) : World := (w.alloc (.cells #[.int .i64 n, .slice ao es.length ca] 24)).alloc (.cells #[.slice f.a1 s.par.length f.c1, .slice f.a2 s.hei.length f.c2, .slice f.a3 s.ord.length f.c3, .slice f.a4 s.ori.length f.c4] 27)

section
variable {w W V : World} {n : Nat} {ao : Option Addr} {ca : Nat} {es : List (Int × Int)} {f : For} {s : Df.St}
theorem BxAt.new : BxAt w (bxw w n ao ca es f s) n ao ca es f s := by
  refine ⟨((Below.refl _ _).alloc (Nat.le_refl _) _).alloc (by simp) _, ?_, ?_⟩
  · rw [Below.heap_alloc _ _ _ (by simp)]
    exact heap_alloc_new w _
  · exact alloc_at (by simp)
theorem BxAt.later (h : BxAt w W n ao ca es f s) (hb : Below W.heap.size W V) : BxAt w V n ao ca es f s := ⟨h.bel.trans (hb.mono h.bel.size), (hb.block _ (lt_of_block h.g)).trans h.g, (hb.block _ (lt_of_block h.k)).trans h.k⟩
theorem BxAt.x0 (h : BxAt w W n ao ca es f s) : W.cell? ⟨w.heap.size, 0, none⟩ = some (.int .i64 n) := (pair_cells h.g).1
theorem BxAt.x1 (h : BxAt w W n ao ca es f s) : W.cell? ⟨w.heap.size, 1, none⟩ = some (.slice ao es.length ca) := (pair_cells h.g).2.1
theorem BxAt.k0 (h : BxAt w W n ao ca es f s) : W.cell? ⟨w.heap.size + 1, 0, none⟩ = some (.slice f.a1 s.par.length f.c1) := (four_cells h.k).1
theorem BxAt.k1 (h : BxAt w W n ao ca es f s) : W.cell? ⟨w.heap.size + 1, 1, none⟩ = some (.slice f.a2 s.hei.length f.c2) := (four_cells h.k).2.1
theorem BxAt.k2 (h : BxAt w W n ao ca es f s) : W.cell? ⟨w.heap.size + 1, 2, none⟩ = some (.slice f.a3 s.ord.length f.c3) := (four_cells h.k).2.2.1
theorem BxAt.k3 (h : BxAt w W n ao ca es f s) : W.cell? ⟨w.heap.size + 1, 3, none⟩ = some (.slice f.a4 s.ori.length f.c4) := (four_cells h.k).2.2.2.1
theorem BxAt.drew (h : BxAt w W n ao ca es f s) : BxAt w W.drew n ao ca es f s := h.later (Below.refl _ _).drew
theorem BxAt.drewN (h : BxAt w W n ao ca es f s) (k : Nat) : BxAt w (W.drewN k) n ao ca es f s := h.later (below_drewN (Below.refl _ _) k)

/-- One vertex, as rooted asks. -/
abbrev rok (n : Nat) (s : Df.St) (v : Nat) : Prop := 0 ≤ Df.at_ s.hei v ∧ Df.at_ s.hei v < (n : Int) ∧ (Df.at_ s.hei v = 0 ↔ Df.at_ s.par v = -1)

set_option maxRecDepth 100000 in
set_option maxHeartbeats 8000000 in
theorem rrooted_any (hF : LstF w f s) (hL : Df.Lens n es s) :
    Calls Tryz.prog 29 #[.agg #[.int .i64 (n : Int), .slice ao es.length ca], f.val s] w (BoolPost (Df.Rooted n s) w) := by
  obtain ⟨l1, l2, l3, l4⟩ := hL
  have hn1 := hF.n1
  obtain ⟨W, hW⟩ : ∃ W, W = bxw w n ao ca es f s := ⟨_, rfl⟩
  have hbx : BxAt w W n ao ca es f s := by rw [hW]; exact BxAt.new
  have HBX := Nu.hid hbx
  have HF : Hid (∀ V, BxAt w V n ao ca es f s → LstF V f s) := fun V hV => hF.later hV.bel
  obtain ⟨a1, a2, a3, a4, c1, c2, c3, c4⟩ := f
  unfold For.val
  dsimp only
  unfold bxw at hW
  dsimp only at hW
  rw [l1] at hn1
  rw [l1, l2, l3, l4] at hW ⊢
  have HW := Nu.hid hW
  clear hF hW hbx
  go_enter Tryz.func29, Tryz.ntmps29
  go_wp2_with fail
  rw [← HW.out]
  go_loopw [5] (fun c wr => ∃ k : Nat, k ≤ n ∧ c = .int .i64 k ∧ (∀ v, v < k → rok n s v) ∧ BxAt w wr n ao ca es ⟨a1, a2, a3, a4, c1, c2, c3, c4⟩ s) (fun c _ => n - (intOf c).toNat)
  case atStart => exact ⟨0, Nat.zero_le _, rfl, fun v hv => (by omega), HBX.out⟩
  case round =>
    obtain ⟨k, hk, rfl, hall, hb⟩ := hrel
    have HALL := Nu.hid hall
    have HB := Nu.hid hb
    have x0 := hb.x0
    have k0 := hb.k0
    have k1 := hb.k1
    dsimp only at k0 k1
    rw [l1] at k0
    rw [l2] at k1
    by_cases hlt : k < n
    · have hFw := HF.out wr hb
      obtain ⟨b1, o1, e1, d1⟩ := lst_at hFw.l1 (i := k) (by omega)
      obtain ⟨b2, o2, e2, d2⟩ := lst_at hFw.l2 (i := k) (by omega)
      dsimp only at e1 e2
      subst e1
      subst e2
      obtain ⟨x, hx⟩ : ∃ x, s.par.getD k (-1) = x := ⟨_, rfl⟩
      obtain ⟨y, hy⟩ : ∃ y, s.hei.getD k (-1) = y := ⟨_, rfl⟩
      rw [hx] at d1
      rw [hy] at d2
      have HQ : Hid (rok n s k ↔ 0 ≤ y ∧ y < (n : Int) ∧ (y = 0 ↔ x = -1)) := by
        show (0 ≤ s.hei.getD k (-1) ∧ s.hei.getD k (-1) < (n : Int) ∧ (s.hei.getD k (-1) = 0 ↔ s.par.getD k (-1) = -1)) ↔ _
        rw [hx, hy]
      have v1 : (k : Int) < (n : Int) := by omega
      have v0 : (0 : Int) ≤ (k : Int) := by omega
      have HLT := Nu.hid hlt
      clear hFw hb hall hx hy
      by_cases hy0 : 0 ≤ y
      · have hy0' : ¬ y < 0 := by omega
        by_cases hyn : y < (n : Int)
        · by_cases hya : y = 0 <;> by_cases hxa : x = -1
          · have HX := Nu.hid (And.intro hya hxa)
            have HY := Nu.hid (And.intro hy0 hyn)
            have t1 : (y == 0) = true := by simp [hya]
            have t2 : (x == -1) = true := by simp [hxa]
            have t0 : decide ((n : Int) ≤ y) = false := by simp; omega
            have t0' : decide (y < 0) = false := by simp; omega
            clear hlt hya hxa hy0 hyn hy0'
            go_wp2_with fail
            go_quiet (fail)
            go_wp2
            go_roundw
            case rel =>
              refine ⟨k + 1, by have := HLT.out; omega, by go_num, fun v hv => ?_, HB.out.drewN _⟩
              by_cases e : v = k
              · rw [e]; exact HQ.out.2 (by have h1 := HX.out; have h2 := HY.out; omega)
              · exact HALL.out v (by omega)
            case measure => simp [intOf]; omega
          · have HX := Nu.hid (And.intro hya hxa)
            have HY := Nu.hid (And.intro hy0 hyn)
            have t1 : (y == 0) = true := by simp [hya]
            have t2 : (x == -1) = false := by simp [hxa]
            have t0 : decide ((n : Int) ≤ y) = false := by simp; omega
            have t0' : decide (y < 0) = false := by simp; omega
            clear hlt hya hxa hy0 hyn hy0'
            go_wp2_with fail
            go_quiet (fail)
            go_wp2
            go_ret
            exact ⟨false, rfl, ⟨fun h => (by cases h), fun h => (by have h1 := HQ.out.1 (h k HLT.out); have h2 := HX.out; omega)⟩, (HB.out.drewN _).bel⟩
          · have HX := Nu.hid (And.intro hya hxa)
            have HY := Nu.hid (And.intro hy0 hyn)
            have t1 : (y == 0) = false := by simp [hya]
            have t2 : (x == -1) = true := by simp [hxa]
            have t0 : decide ((n : Int) ≤ y) = false := by simp; omega
            have t0' : decide (y < 0) = false := by simp; omega
            clear hlt hya hxa hy0 hyn hy0'
            go_wp2_with fail
            go_quiet (fail)
            go_wp2
            go_ret
            exact ⟨false, rfl, ⟨fun h => (by cases h), fun h => (by have h1 := HQ.out.1 (h k HLT.out); have h2 := HX.out; omega)⟩, (HB.out.drewN _).bel⟩
          · have HX := Nu.hid (And.intro hya hxa)
            have HY := Nu.hid (And.intro hy0 hyn)
            have t1 : (y == 0) = false := by simp [hya]
            have t2 : (x == -1) = false := by simp [hxa]
            have t0 : decide ((n : Int) ≤ y) = false := by simp; omega
            have t0' : decide (y < 0) = false := by simp; omega
            clear hlt hya hxa hy0 hyn hy0'
            go_wp2_with fail
            go_quiet (fail)
            go_wp2
            go_roundw
            case rel =>
              refine ⟨k + 1, by have := HLT.out; omega, by go_num, fun v hv => ?_, HB.out.drewN _⟩
              by_cases e : v = k
              · rw [e]; exact HQ.out.2 (by have h1 := HX.out; have h2 := HY.out; omega)
              · exact HALL.out v (by omega)
            case measure => simp [intOf]; omega
        · have hyn' : y ≥ (n : Int) := by omega
          have HX := Nu.hid hyn
          have t0 : decide ((n : Int) ≤ y) = true := by simp; omega
          have t0' : decide (y < 0) = false := by simp; omega
          clear hlt hyn hy0 hyn' hy0'
          go_wp2_with fail
          go_quiet (fail)
          go_wp2
          go_ret
          exact ⟨false, rfl, ⟨fun h => (by cases h), fun h => (by have := (HQ.out.1 (h k HLT.out)).2.1; have := HX.out; omega)⟩, (HB.out.drewN _).bel⟩
      · have hy0' : y < 0 := by omega
        have HX := Nu.hid hy0
        clear hlt hy0
        go_wp2_with fail
        go_quiet (fail)
        go_wp2
        go_ret
        exact ⟨false, rfl, ⟨fun h => (by cases h), fun h => (by have := (HQ.out.1 (h k HLT.out)).1; have := HX.out; omega)⟩, (HB.out.drewN _).bel⟩
    · have hd : ¬ ((k : Int) < (n : Int)) := by omega
      have HK : Hid (k = n) := show k = n by omega
      clear hall hb
      go_wp2
      go_ret
      exact ⟨true, rfl, ⟨fun _ v hv => HALL.out v (by rw [HK.out]; exact hv), fun _ => rfl⟩, HB.out.bel⟩
end

end Go.Proofs.YtmgoahbloppdmaaGreat

/-
  The document's Above.
-/
namespace Go.Proofs.YtmgoahbloppdmaaGreat
open Go.RowKit

section
variable {w W V : World} {n : Nat} {ao : Option Addr} {ca : Nat} {es : List (Int × Int)} {f : For} {s : Df.St}

/-- A parent is none, or a half-edge. -/
theorem Df.Hang1.par {v : Nat} (h : Df.Hang1 es s v) : Df.at_ s.par v = -1 ∨ ∃ h : Nat, h < 2 * es.length ∧ Df.at_ s.par v = (h : Int) := by
  rcases h with ⟨h, _⟩ | ⟨x, h1, h2, _⟩
  · exact .inl h
  · exact .inr ⟨x, h1, h2⟩

/-- How far it is up. -/
def hme (s : Df.St) (x : Int) : Nat := if x < 0 then 0 else (Df.at_ s.hei x.toNat).toNat + 1
theorem hme_no (s : Df.St) : hme s (-1) = 0 := rfl
theorem hme_at (s : Df.St) (z : Nat) : hme s z = (Df.at_ s.hei z).toNat + 1 := by
  unfold hme
  rw [if_neg (by omega), Int.toNat_natCast]

set_option maxRecDepth 100000 in
set_option maxHeartbeats 16000000 in
theorem rabv_any (u v : Nat) (he : EdgesAt w ao es) (hv : Si.Val n es) (hF : LstF w f s) (hL : Df.Lens n es s) (hh : Df.Hang n es s) (hr : Df.Rooted n s) (hvn : v < n) {Y : List Int} (hway : Df.IsWay es s ((v : Int) :: Y)) :
    Calls Tryz.prog 52 #[.agg #[.int .i64 (n : Int), .slice ao es.length ca], f.val s, .int .i64 (u : Int), .int .i64 (v : Int)] w (BoolPost (Df.Anc es s u v) w) := by
  obtain ⟨l1, l2, l3, l4⟩ := hL
  have hn1 := hF.n1
  have hnn := hv.hi
  obtain ⟨W, hW⟩ : ∃ W, W = bxw w n ao ca es f s := ⟨_, rfl⟩
  have hbx : BxAt w W n ao ca es f s := by rw [hW]; exact BxAt.new
  have HBX := Nu.hid hbx
  have HUP : Hid (∀ V (z : Nat), BxAt w V n ao ca es f s → z < n → Calls Tryz.prog 51 #[.agg #[.int .i64 (n : Int), .slice ao es.length ca], .agg #[.slice f.a1 s.par.length f.c1, .slice f.a2 s.hei.length f.c2, .slice f.a3 s.ord.length f.c3, .slice f.a4 s.ori.length f.c4], .int .i64 (z : Int)] V fun e w' => e = .returned (.int .i64 (Df.up es s z)) ∧ Below V.heap.size V w') := fun V z hV hz => rup_any n ao ca es f s z V (he.later hV.bel) hv (hF.later hV.bel) l1 hz (hh z hz).par
  have HUC : Hid (∀ z : Nat, z < n → (Df.up es s z = -1) ∨ ∃ y : Nat, y < n ∧ Df.up es s z = (y : Int) ∧ Df.at_ s.hei z = Df.at_ s.hei y + 1) := fun z hz => by
    rcases (hh z hz).cases hv with ⟨_, h, _⟩ | ⟨y, h1, h2, _, h4⟩
    · exact .inl h
    · refine .inr ⟨y, h1, h2, ?_⟩
      have h5 := (hr y h1).1
      have h6 := (hr y h1).2.1
      rw [h4, IntKind.wrap_i64]
      omega
  have HRD := Nu.hid hr
  obtain ⟨a1, a2, a3, a4, c1, c2, c3, c4⟩ := f
  unfold For.val
  unfold bxw at hW
  dsimp only at hW HUP ⊢
  rw [l1, l2, l3, l4] at hW HUP ⊢
  have HW := Nu.hid hW
  clear hF hW hbx he hv hh hr
  go_enter Tryz.func52, Tryz.ntmps52
  go_wp2_with fail
  rw [← HW.out]
  have HWAY := Nu.hid hway
  clear hway
  go_loopw [3] (fun c wr => ∃ k : Int, c = .int .i64 k ∧ (k = -1 ∨ ∃ z : Nat, k = (z : Int) ∧ z < n) ∧ Hid (∃ X Z, (v : Int) :: Y = X ++ Z ∧ (u : Int) ∉ X ∧ k = Z.headD (-1)) ∧ BxAt w wr n ao ca es ⟨a1, a2, a3, a4, c1, c2, c3, c4⟩ s) (fun c _ => hme s (intOf c))
  case atStart => exact ⟨v, rfl, .inr ⟨v, rfl, hvn⟩, ⟨[], (v : Int) :: Y, rfl, by simp, rfl⟩, HBX.out⟩
  case round =>
    obtain ⟨k, rfl, hkc, HK, hb⟩ := hrel
    have HB := Nu.hid hb
    have x0 := hb.x0
    have x1 := hb.x1
    have k0 := hb.k0
    have k1 := hb.k1
    have k2 := hb.k2
    have k3 := hb.k3
    dsimp only at k0 k1 k2 k3
    rw [l1] at k0
    rw [l2] at k1
    rw [l3] at k2
    rw [l4] at k3
    rcases hkc with rfl | ⟨z, rfl, hz⟩
    · clear hb
      go_wp2
      go_ret
      refine ⟨false, rfl, ⟨fun h => (by cases h), fun h => ?_⟩, HB.out.bel⟩
      obtain ⟨X, Z, h1, h2, h3⟩ := HK.out
      rw [Df.Anc.iff HWAY.out, h1] at h
      cases Z with
      | nil => rw [List.append_nil] at h; exact absurd h h2
      | cons z Z =>
        have h4 := HWAY.out
        rw [h1] at h4
        have := h4.tail.1
        simp at h3
        omega
    · have z0 : (0 : Int) ≤ (z : Int) := by omega
      have HZ : Hid (∃ X Z, (v : Int) :: Y = X ++ (z : Int) :: Z ∧ (u : Int) ∉ X ∧ Df.up es s z = Z.headD (-1)) := by
        obtain ⟨X, Z, h1, h2, h3⟩ := HK.out
        cases Z with
        | nil => exact absurd h3 (by simp)
        | cons y Z =>
          simp at h3
          subst h3
          have h4 := HWAY.out
          rw [h1] at h4
          exact ⟨X, Z, h1, h2, h4.tail.2.1⟩
      by_cases huz : u = z
      · subst huz
        clear hb
        go_wp2
        go_ret
        refine ⟨true, rfl, ⟨fun _ => ?_, fun _ => rfl⟩, HB.out.bel⟩
        obtain ⟨X, Z, h1, _⟩ := HZ.out
        rw [Df.Anc.iff HWAY.out, h1]
        simp
      · have t1 : ((u : Int) == (z : Int)) = false := by simp; omega
        have HUZ := Nu.hid huz
        have HCU := Nu.hid (HUP.out wr z hb hz)
        have HUCZ := Nu.hid (HUC.out z hz)
        have hrz := HRD.out z hz
        have HRZ := Nu.hid hrz
        have HBL := Nu.hid (fun V => hb.later (V := V))
        clear hb huz hrz
        go_wp2_with (go_at_call 51; refine HCU.out.mono ?_; rintro e w1 ⟨rfl, hb1⟩; have HB1 := Nu.hid hb1; clear hb1)
        go_roundw
        case rel =>
          refine ⟨_, rfl, ?_, ?_, HBL.out _ HB1.out⟩
          · rcases HUCZ.out with h | ⟨y, h1, h2, _⟩
            · exact .inl h
            · exact .inr ⟨y, h2, h1⟩
          · obtain ⟨X, Z, h1, h2, h3⟩ := HZ.out
            refine ⟨X ++ [(z : Int)], Z, by rw [h1]; simp, ?_, h3⟩
            intro hm
            rcases List.mem_append.1 hm with hm | hm
            · exact h2 hm
            · rw [List.mem_singleton] at hm
              have := HUZ.out
              omega
        case measure =>
          have h0 := HRZ.out.1
          simp only [intOf]
          rw [hme_at]
          rcases HUCZ.out with h | ⟨y, h1, h2, h3⟩
          · rw [h, hme_no]
            omega
          · have h4 := (HRD.out y h1).1
            rw [h2, hme_at, h3]
            omega
end

end Go.Proofs.YtmgoahbloppdmaaGreat

/-
  The document's Ends, tree and above of layer 8.
-/
namespace Go.Proofs.YtmgoahbloppdmaaGreat
open Go.RowKit

section
variable {w : World} {n : Nat} {ao : Option Addr} {ca : Nat} {es : List (Int × Int)} {f : For} {s : Df.St}

/-- The four lists as they are handed on. -/
abbrev fval (f : For) (s : Df.St) : Value := .agg #[.slice f.a1 s.par.length f.c1, .slice f.a2 s.hei.length f.c2, .slice f.a3 s.ord.length f.c3, .slice f.a4 s.ori.length f.c4]

set_option maxRecDepth 100000 in
set_option maxHeartbeats 16000000 in
theorem r8ends_any (e : Nat) (he : EdgesAt w ao es) (hv : Si.Val n es) (hF : LstF w f s) (hVF : Df.VF n es s) (hel : e < es.length) :
    Calls Tryz.prog 18 #[.agg #[.int .i64 (n : Int), .slice ao es.length ca], f.val s, .int .i64 (e : Int)] w fun r w' => r = .returned (.tuple #[.int .i64 (Lo.fr es s e : Int), .int .i64 (Lo.go_ es s e : Int)]) ∧ Below w.heap.size w w' := by
  obtain ⟨hx, hpar, hxl, hx2⟩ := Lo.oh_of hVF hel
  obtain ⟨p, hp, -, hends⟩ := half_edge hv hxl
  rw [hx2] at hp
  have l4 := hVF.lens.2.2.2
  obtain ⟨W, hW⟩ : ∃ W, W = bxw w n ao ca es f s := ⟨_, rfl⟩
  have hbx : BxAt w W n ao ca es f s := by rw [hW]; exact BxAt.new
  have HBX := Nu.hid hbx
  obtain ⟨b4, o4, e4, d4⟩ := lst_at (hF.later hbx.bel).l4 (i := e) (by omega)
  rw [show s.ori.getD e (-1) = _ from hx] at d4
  obtain ⟨be, oe, ea, q0, q1⟩ := (he.later hbx.bel) e p hp
  obtain ⟨a1, a2, a3, a4, c1, c2, c3, c4⟩ := f
  dsimp only at e4
  subst e4
  subst ea
  have x1 := hbx.x1
  have k3 := hbx.k3
  dsimp only at k3
  unfold For.val
  unfold bxw at hW
  dsimp only at hW ⊢
  rw [l4] at k3 hW ⊢
  have v0 : (0 : Int) ≤ (e : Int) := by omega
  have v1 : (e : Int) < (es.length : Int) := by omega
  obtain ⟨j, hj⟩ : ∃ j, Lo.oh s e = j := ⟨_, rfl⟩
  have hfe : Lo.fr es s e = Cs.fr es j := by unfold Lo.fr; rw [hj]
  have hte : Lo.go_ es s e = Cs.to es j := by unfold Lo.go_; rw [hj]
  rw [hfe, hte]
  rw [hj] at d4 hends hpar
  have hj0 : (0 : Int) ≤ (j : Int) := by omega
  rw [hW] at d4 q0 q1 x1 k3
  rcases hends with ⟨hm, hf1, ht1⟩ | ⟨hm, hf1, ht1⟩
  · have hm1 : (j : Int).tmod 2 = 0 := by rw [Int.tmod_eq_emod_of_nonneg hj0]; omega
    have hm2 : (j : Int) % 2 = 0 := by omega
    rw [hf1, ht1]
    have HB0 : Hid (Below w.heap.size w W) := hbx.bel
    rw [hW] at HB0
    clear he hv hF hVF hbx HBX hW hx hpar hxl hx2 hp hfe hte hj hf1 ht1 hm
    go_enter Tryz.func18, Tryz.ntmps18
    go_wp2_with fail
    go_quiet (fail)
    go_wp2
    go_ret2
    exact ⟨rfl, below_drewN HB0.out _⟩
  · have hm1 : (j : Int).tmod 2 = 1 := by rw [Int.tmod_eq_emod_of_nonneg hj0]; omega
    have hm2 : (j : Int) % 2 = 1 := by omega
    rw [hf1, ht1]
    have HB0 : Hid (Below w.heap.size w W) := hbx.bel
    rw [hW] at HB0
    clear he hv hF hVF hbx HBX hW hx hpar hxl hx2 hp hfe hte hj hf1 ht1 hm
    go_enter Tryz.func18, Tryz.ntmps18
    go_wp2_with fail
    go_quiet (fail)
    go_wp2
    go_ret2
    exact ⟨rfl, below_drewN HB0.out _⟩
end

end Go.Proofs.YtmgoahbloppdmaaGreat
