/-
  The law LowMemory: up to where the copies stand.
-/
import Derived.Test.YtmgoahbloppdmaaGreatMg11
import Derived.Test.YtmgoahbloppdmaaGreatMg28
import Derived.Test.YtmgoahbloppdmaaGreatMg38
import Derived.Test.YtmgoahbloppdmaaGreatLmB
import Derived.Deep.CutRange
namespace Go.Proofs.YtmgoahbloppdmaaGreat
open Go.ChangeShapes Go.WideShapes Go.ChangeAt Go.RowKit AnyOrd
namespace lawLMem

theorem own_lst8 {w : World} {B g k c : Nat} {l : List Int} (h : OwnZ w B (.slice (some ⟨g, 0, none⟩) k c) l) : Lst w (some ⟨g, 0, none⟩) l.length c l := by
  obtain ⟨ao, ca, e, hL, _⟩ := h.lst
  cases e
  exact hL
theorem own_room8 {w : World} {B n c : Nat} {ao : Option Addr} {l : List Int} (h : OwnZ w B (.slice ao n c) l) : n ≤ c := by
  rcases h.2 with ⟨e, h0⟩ | ⟨g, cap, cur, e, _, _, h1, _⟩
  · cases e
    exact Nat.le_refl _
  · cases e
    exact h1

set_option maxRecDepth 100000 in
set_option maxHeartbeats 16000000 in
theorem walk (n : Int) (ao : Option Addr) (ca : Nat) (es : List (Int × Int)) (f : For) (s : Df.St) (x : Int) (w : World) (_ : -9223372036854775808 ≤ n ∧ n ≤ 9223372036854775807) (hq : PairsIn w ao es.length ca es) (hl : es.length * 16 ≤ 140737488351232) (hF : LstF w f s) (hI : In64F s ∧ s.ord.length ≤ f.c3) (_ : (Lit.int IntKind.i64 x).wf = true) :
    Calls Tryz.prog 5 #[.agg #[.int .i64 n, .slice ao es.length ca], f.val s, .int .i64 x] w fun e w' => e = .returned (.bool true) ∧ Below w.heap.size w w' := by
  have hcap := hI.2
  clear hI
  obtain ⟨a1, a2, a3, a4, c1, c2, c3, c4⟩ := f
  change Calls _ _ #[_, .agg #[.slice a1 s.par.length c1, .slice a2 s.hei.length c2, .slice a3 s.ord.length c3, .slice a4 s.ori.length c4], _] _ _
  obtain ⟨W, hW⟩ : ∃ W, W = (w.alloc (.cells #[.int .i64 n, .slice ao es.length ca] 24)).alloc (.cells #[.slice a1 s.par.length c1, .slice a2 s.hei.length c2, .slice a3 s.ord.length c3, .slice a4 s.ori.length c4] 27) := ⟨_, rfl⟩
  have hB0 : Below w.heap.size w W := by rw [hW]; exact ((Below.refl _ _).alloc (Nat.le_refl _) _).alloc (by simp) _
  have g1 : W.heap[w.heap.size]? = some (.cells #[.int .i64 n, .slice ao es.length ca] 24 (0, 0)) := by
    rw [hW, Below.heap_alloc _ _ _ (by simp)]
    exact heap_alloc_new w _
  have g2 : W.heap[w.heap.size + 1]? = some (.cells #[.slice a1 s.par.length c1, .slice a2 s.hei.length c2, .slice a3 s.ord.length c3, .slice a4 s.ori.length c4] 27 (0, 0)) := by
    rw [hW]
    exact alloc_at (by simp)
  have lt1 := lt_of_block g1
  have lt2 := lt_of_block g2
  have hat := hq.hat.later hB0
  have hFW := hF.later hB0
  have HBOX : Hid (∀ V, Below W.heap.size W V → V.cell? ⟨w.heap.size, 0, none⟩ = some (.int .i64 n) ∧ V.cell? ⟨w.heap.size, 1, none⟩ = some (.slice ao es.length ca) ∧ V.cell? ⟨w.heap.size + 1, 0, none⟩ = some (.slice a1 s.par.length c1) ∧ V.cell? ⟨w.heap.size + 1, 1, none⟩ = some (.slice a2 s.hei.length c2) ∧ V.cell? ⟨w.heap.size + 1, 2, none⟩ = some (.slice a3 s.ord.length c3) ∧ V.cell? ⟨w.heap.size + 1, 3, none⟩ = some (.slice a4 s.ori.length c4)) := fun V hV => by
    obtain ⟨x0, x1, -⟩ := pair_cells ((hV.block w.heap.size lt1).trans g1)
    obtain ⟨q0, q1, q2, q3, -⟩ := four_cells ((hV.block (w.heap.size + 1) lt2).trans g2)
    exact ⟨x0, x1, q0, q1, q2, q3⟩
  have HLAT : Hid (∀ V, Below W.heap.size W V → EdgesAt V ao es ∧ LstF V ⟨a1, a2, a3, a4, c1, c2, c3, c4⟩ s) := fun V hV => ⟨hat.later hV, hFW.later hV⟩
  have HRO : Hid (∀ V, Below W.heap.size W V → Calls Tryz.prog 7 #[.agg #[.int .i64 n, .slice ao es.length ca], .agg #[.slice a1 s.par.length c1, .slice a2 s.hei.length c2, .slice a3 s.ord.length c3, .slice a4 s.ori.length c4]] V fun r w' => ∃ a1 k1 c1 a2 k2 c2 a3 k3 c3 a4 k4 c4 A1 A2 A3 ls z, r = .returned (.tuple #[.agg #[.slice a1 k1 c1, .slice a2 k2 c2, .slice a3 k3 c3, .slice a4 k4 c4], .int .i64 z]) ∧ LowIs n es s A1 A2 A3 ls z ∧ LowAt w' (.slice a1 k1 c1) (.slice a2 k2 c2) (.slice a3 k3 c3) (.slice a4 k4 c4) A1 A2 A3 ls ∧ Below V.heap.size V w') := fun V hV =>
    (r8Of_any n ao ca es ⟨a1, a2, a3, a4, c1, c2, c3, c4⟩ s V (hat.later hV) (by omega) (hFW.later hV)).mono fun r w' h => h.form
  have HRR : Hid (∀ V, Below W.heap.size W V → Calls Tryz.prog 10 #[.agg #[.int .i64 n, .slice ao es.length ca], .agg #[.slice a1 s.par.length c1, .slice a2 s.hei.length c2, .slice a3 s.ord.length c3, .slice a4 s.ori.length c4], .int .i64 x] V fun r w' => ∃ a k c l z, r = .returned (.tuple #[.slice a k c, .int .i64 z]) ∧ RetIs n es s x l z ∧ OwnZ w' V.heap.size (.slice a k c) (zs l) ∧ Below V.heap.size V w') := fun V hV =>
    (r8returns_any n ao ca es ⟨a1, a2, a3, a4, c1, c2, c3, c4⟩ s x V (hat.later hV) (by omega) (hFW.later hV)).mono fun r w' h => RetPost.form h
  have HFX := Nu.hid (fixed8_any W)
  have HWW := Nu.hid hW
  have HB0 := Nu.hid hB0
  have HNIL := Nu.hid hq.hnil
  clear hF g1 g2 hB0 hW hat hq hFW
  go_enter Tryz.func5, Tryz.ntmps5
  go_wp2_with (go_at_call 6; rw [← HWW.out]; refine HFX.out.mono ?_; rintro e w1 ⟨rfl, hb1⟩; obtain ⟨x0, x1, x2, x3, x4, x5⟩ := HBOX.out w1 hb1; have HB1 := Nu.hid hb1; have hs1 := hb1.size; clear hb1; refine Hid.out ?_)
  refine Nu.hid ?_
  go_wp2_with (go_at_call 7; refine (HRO.out _ HB1.out).mono ?_; rintro e w2 ⟨b1, k1, d1, b2, k2, d2, b3, k3, d3, b4, k4, d4, A1, A2, A3, ls, z, rfl, hI, hA, hb2⟩; refine Hid.out ?_)
  refine Nu.hid ?_
  obtain ⟨w3, hw3⟩ : ∃ w3, w3 = w2.alloc (.cells #[.slice b1 k1 d1, .slice b2 k2 d2, .slice b3 k3 d3, .slice b4 k4 d4] 31) := ⟨_, rfl⟩
  have hb3 : Below w2.heap.size w2 w3 := by rw [hw3]; exact (Below.refl _ _).alloc (Nat.le_refl _) _
  have hs3 : w2.heap.size + 1 ≤ w3.heap.size := by rw [hw3]; simp
  have hs2 := hb2.size
  have hB3 : Below W.heap.size W w3 := HB1.out.trans ((hb2.trans (hb3.mono hb2.size)).mono HB1.out.size)
  have lb3 : w3.heap[w2.heap.size]? = some (.cells #[.slice b1 k1 d1, .slice b2 k2 d2, .slice b3 k3 d3, .slice b4 k4 d4] 31 (0, 0)) := by rw [hw3]; exact heap_alloc_new w2 _
  obtain ⟨x0, x1, x2, x3, x4, x5⟩ := HBOX.out w3 hB3
  have HR3 := Nu.hid (HRR.out w3 hB3)
  have HA3 := Nu.hid (hA.later hb3)
  have HI := Nu.hid hI
  have HB3 := Nu.hid hB3
  have HLB3 := Nu.hid lb3
  have HW3 := Nu.hid hw3
  rw [hw3] at x0 x1 x2 x3 x4 x5
  clear hb3 hb2 hB3 hA hI lb3 hw3 HRO HRR
  go_wp2_with (go_at_call 10; rw [← HW3.out]; refine HR3.out.mono ?_; rintro e w4 ⟨rb, rk, rd, rl, rz, rfl, hRI, hro, hb4⟩; refine Hid.out ?_)
  refine Nu.hid ?_
  have hB4 : Below W.heap.size W w4 := HB3.out.trans (hb4.mono HB3.out.size)
  have HRI := Nu.hid hRI
  have HRO4 := Nu.hid hro
  have HB4 := Nu.hid hB4
  have HB34 := Nu.hid hb4
  have hs4 := hB4.size
  clear x0 x1 x2 x3 x4 x5 hRI hro hb4 hB4
  go_upto_region 5 with fail
  go_cut [11] from 35 to 58 (fun c wt => ∃ H gM cM : Nat, c = .pointer (some ⟨H, 0, none⟩) ∧ wt.heap[H]? = some (.cells #[.int .i64 n, .slice (some ⟨gM, 0, none⟩) es.length cM] 24 (0, 0)) ∧ OwnE wt w4.heap.size (.slice (some ⟨gM, 0, none⟩) es.length cM) es ∧ w4.heap.size ≤ H ∧ H ≠ gM ∧ Below w4.heap.size w4 wt)
  case first =>
    go_wp2_with fail
    rename_i K1 hK1
    refine wp_region_any (by kernel_rfl) ?_
    have hbW : Below w4.heap.size w4 { w4 with drawn := w4.drawn + 1 } := (Below.refl _ _).drew
    refine AnyOrd.any (mcSpec w.heap.size w4.heap.size n ao ca es) 8 162 (by decide) rfl (by kernel_rfl) ?_ ?_ ?_
    · intro i hi v vs lo hi' U U' h1 h2 h3
      have hc : i = 0 ∨ i = 1 ∨ i = 2 ∨ i = 3 ∨ i = 4 ∨ i = 5 ∨ i = 6 ∨ i = 7 := by omega
      rcases hc with rfl | rfl | rfl | rfl | rfl | rfl | rfl | rfl <;> first | exact newSpE.stab h1 h2 h3 | exact boxSp.stab h1 h2 h3 | exact cpySpE.stab h2 h3 | exact h3
    · intro i o ρ U ev hi ho hb hd he1 he2 _
      have hb2 : Below w4.heap.size w4 U := hbW.trans hb
      have hbU : Below W.heap.size W U := HB4.out.trans (hb2.mono HB4.out.size)
      obtain ⟨c0, c1, -⟩ := HBOX.out U hbU
      have hEU := (HLAT.out U hbU).1
      have hc : i = 0 ∨ i = 1 ∨ i = 2 ∨ i = 3 ∨ i = 4 ∨ i = 5 ∨ i = 6 ∨ i = 7 := by omega
      rcases hc with rfl | rfl | rfl | rfl | rfl | rfl | rfl | rfl <;> obtain rfl := Option.some.inj ho
      · have e1 := he2 3 (by kernel_rfl)
        exact gives_value (v := .pointer (some ⟨w.heap.size, 0, none⟩)) (w' := U) (by simp [execOp, go_sem, e1]) ⟨Below.refl _ _, rfl⟩
      · obtain ⟨_, _, _, _, _, r4⟩ := hd 0 (by simp [mcSpec, lodSp])
        have r5 : ρ 0 = .pointer (some ⟨w.heap.size, 0, none⟩) := r4
        exact gives_value (v := .int .i64 n) (w' := U) (by simp [execOp, go_sem, he1 0 35 (by omega) rfl (by decide), r5, c0]) ⟨Below.refl _ _, rfl⟩
      · refine gives_value (v := .slice (some ⟨U.heap.size, 0, none⟩) 0 0) (w' := U.alloc (.cells #[] 47)) ?_ ⟨(Below.refl _ _).alloc (Nat.le_refl _) _, rfl, by simp, heap_alloc_new _ _⟩
        simp [execOp, go_sem]
      · have e1 := he2 3 (by kernel_rfl)
        exact gives_value (v := .pointer (some ⟨w.heap.size, 1, none⟩)) (w' := U) (by simp [execOp, go_sem, e1]) ⟨Below.refl _ _, rfl⟩
      · obtain ⟨_, _, _, _, _, r4⟩ := hd 3 (by simp [mcSpec, lodSp])
        have r5 : ρ 3 = .pointer (some ⟨w.heap.size, 1, none⟩) := r4
        exact gives_value (v := .slice ao es.length ca) (w' := U) (by simp [execOp, go_sem, he1 3 38 (by omega) rfl (by decide), r5, c1]) ⟨Below.refl _ _, rfl⟩
      · obtain ⟨lo, hi', q1, q2, q3, r1, r2, r3⟩ := hd 2 (by simp [mcSpec, cpySpE])
        obtain ⟨_, _, _, _, _, r4⟩ := hd 4 (by simp [mcSpec, cpySpE])
        exact gives_copyE (he1 2 37 (by omega) rfl (by decide)) (he1 4 39 (by omega) rfl (by decide)) r1 r3 q1 r4 hEU HNIL.out hl
      · obtain ⟨_, _, _, _, _, r1⟩ := hd 1 (by simp [mcSpec])
        obtain ⟨_, _, _, _, _, g2, d2, _, _, r2, _⟩ := hd 5 (by simp [mcSpec])
        have r1' : ρ 1 = .int .i64 n := r1
        exact gives_value (v := .agg #[ρ 1, ρ 5]) (w' := U) (by simp [execOp, go_sem, he1 1 36 (by omega) rfl (by decide), he1 5 40 (by omega) rfl (by decide), r1', r2]) ⟨Below.refl _ _, _, _, rfl, rfl⟩
      · refine gives_value (v := .pointer (some ⟨U.heap.size, 0, none⟩)) (w' := U.alloc (.cells #[.int .i64 0, .slice none 0 0] 24)) ?_ ⟨(Below.refl _ _).alloc (Nat.le_refl _) _, rfl, by simp, heap_alloc_new _ _⟩
        simp [execOp, go_sem]
    · intro ρ lo hi V a ha hdef he1 he2 hb hd hdis
      have p11 := he1 7 11 (by omega) rfl (by decide)
      have p41 := he1 6 41 (by omega) rfl (by decide)
      have hb2 : Below w4.heap.size w4 V := hbW.trans hb
      obtain ⟨t1, t2, t3, m7, n7, hbox⟩ := hd 7 (by omega)
      obtain ⟨a2, _, _, m2, n2, _⟩ := hd 2 (by omega)
      obtain ⟨b1, _, _, x1, d1, y1, _, r1, s1, t1', u1⟩ := hd 5 (by omega)
      obtain ⟨_, _, _, q1, q2, hq, hv⟩ := hd 6 (by omega)
      obtain ⟨_, _, _, hr1⟩ := hd 1 (by omega)
      have hr1' : ρ 1 = .int .i64 n := hr1
      have hv2 : ρ 6 = .agg #[ρ 1, ρ 5] := by
        have e : [ρ 1, ρ 5] = [q1, q2] := hq
        simp at e
        obtain ⟨rfl, rfl⟩ := e
        exact hv
      have z1 : lo 2 = y1 := by
        have e : [ρ 2, ρ 4] = _ := s1
        rw [m2] at e
        injection e with e1
        injection e1 with e2
        injection e2 with e3
        injection e3
      have ne : lo 7 ≠ x1 := by
        have := hdis 7 2 (by omega) (by omega) (by omega)
        have := hdis 7 5 (by omega) (by omega) (by omega)
        omega
      rw [r1] at u1
      rw [hr1', r1] at hv2
      rw [hv2] at p41
      rw [m7] at p11
      have HOWN : Hid (OwnE (put2 V (lo 7) (.int .i64 n) (.slice (some ⟨x1, 0, none⟩) es.length d1)) w4.heap.size (.slice (some ⟨x1, 0, none⟩) es.length d1) es) := own_keep8 u1 fun g hg => by
        obtain rfl : x1 = g := by simpa [Value.ownBlock] using hg
        exact put2_other (fun h => ne h.symm) _ _
      have HBX := Nu.hid (put2_heap hbox (.int .i64 n) (.slice (some ⟨x1, 0, none⟩) es.length d1))
      have HBL := Nu.hid (below_put2 hb2 (R := lo 7) (by omega) (.int .i64 n) (.slice (some ⟨x1, 0, none⟩) es.length d1))
      have HLO : Hid (w4.heap.size ≤ lo 7) := t1
      have HNE := Nu.hid ne
      have HBOX7 := Nu.hid hbox
      clear hd hdis he1 he2 u1 hv2 z1 ne hb hb2 hbox s1 hq hv hr1 hr1'
      refine wpAny_ready (rs := [8]) (by kernel_rfl) (by simp) ?_
      refine AllReady.cons rfl (fun K hK => ?_) AllReady.nil
      rw [if_pos (by rfl)]
      refine Gives.wp (R := fun _ w' => w' = put2 V (lo 7) (.int .i64 n) (.slice (some ⟨x1, 0, none⟩) es.length d1)) ?_ ?_
      · exact gives_store2 p11 p41 HBOX7.out
      · rintro v w' rfl
        refine hK _ _ ?_
        clear hK K
        refine wpAny_done (by kernel_rfl) ?_ _
        refine hK1 _ _ (Met.intro (K1 _ _ ?_))
        rw [ha]
        exact ⟨ρ 7, ρ 0, ρ 1, ρ 2, ρ 3, ρ 4, ρ 5, ρ 6, undef, undef, undef, undef, undef, undef, undef, undef, undef, undef, undef, undef, undef, undef, undef, undef, undef, ⟨lo 7, x1, d1, m7, HBX.out, HOWN.out, HLO.out, HNE.out, HBL.out⟩, by kernel_rfl⟩
  case rest =>
    obtain ⟨H, gM, cM, rfl, hbH, hoE, hHlo, hHne, hbc⟩ := hcut
    have HBH := Nu.hid hbH
    have HOE := Nu.hid hoE
    have HHL : Hid (w4.heap.size ≤ H ∧ H ≠ gM) := ⟨hHlo, hHne⟩
    have HBC := Nu.hid hbc
    clear hbH hoE hHlo hHne hbc
    obtain ⟨w5, rfl⟩ : ∃ w5, w5 = wc := ⟨wc, rfl⟩
    go_upto_region 6 with fail
    go_cut [12] from 35 to 58 (fun c wt => ∃ M x1 x2 x3 x4 d1 d2 d3 d4 : Nat, c = .pointer (some ⟨M, 0, none⟩) ∧ wt.heap[M]? = some (.cells #[.slice (some ⟨x1, 0, none⟩) s.par.length d1, .slice (some ⟨x2, 0, none⟩) s.hei.length d2, .slice (some ⟨x3, 0, none⟩) s.ord.length d3, .slice (some ⟨x4, 0, none⟩) s.ori.length d4] 27 (0, 0)) ∧ OwnF wt w5.heap.size (.slice (some ⟨x1, 0, none⟩) s.par.length d1) (.slice (some ⟨x2, 0, none⟩) s.hei.length d2) (.slice (some ⟨x3, 0, none⟩) s.ord.length d3) (.slice (some ⟨x4, 0, none⟩) s.ori.length d4) s ∧ w5.heap.size ≤ M ∧ Below w5.heap.size w5 wt)
    case first =>
      go_wp2_with fail
      rename_i K1 hK1
      refine wp_region_any (by kernel_rfl) ?_
      have hbW : Below w5.heap.size w5 { w5 with drawn := w5.drawn + 1 } := (Below.refl _ _).drew
      refine AnyOrd.any (mfSpec (w.heap.size + 1) w5.heap.size ⟨a1, a2, a3, a4, c1, c2, c3, c4⟩ s) 18 162 (by decide) rfl (by kernel_rfl) ?_ ?_ ?_
      · intro i hi v vs lo hi' U U' h1 h2 h3
        have hc : i = 0 ∨ i = 1 ∨ i = 2 ∨ i = 3 ∨ i = 4 ∨ i = 5 ∨ i = 6 ∨ i = 7 ∨ i = 8 ∨ i = 9 ∨ i = 10 ∨ i = 11 ∨ i = 12 ∨ i = 13 ∨ i = 14 ∨ i = 15 ∨ i = 16 ∨ i = 17 := by omega
        rcases hc with rfl | rfl | rfl | rfl | rfl | rfl | rfl | rfl | rfl | rfl | rfl | rfl | rfl | rfl | rfl | rfl | rfl | rfl <;> first | exact newSp.stab h1 h2 h3 | exact boxSp.stab h1 h2 h3 | exact cpySp.stab h2 h3 | exact h3
      · intro i o ρ U ev hi ho hb hd he1 he2 _
        have hb2 : Below w5.heap.size w5 U := hbW.trans hb
        have hb4 : Below w4.heap.size w4 U := HBC.out.trans (hb2.mono HBC.out.size)
        have hbU : Below W.heap.size W U := HB4.out.trans (hb4.mono HB4.out.size)
        obtain ⟨-, -, k0, k1, k2, k3⟩ := HBOX.out U hbU
        have hFU := (HLAT.out U hbU).2
        have hnew : ∀ (t : Tmp) (ps : String) (af : Array Edge) (ev : Operand → Value), Gives Tryz.prog { dst := some t, op := .buildSlice 25 0 #[], type := 25, pos := ps, after := af, guard := none } ev U fun v w' => Below U.heap.size U w' ∧ newSp.post v [] U.heap.size w'.heap.size w' := fun t ps af ev => by
          refine gives_value (v := .slice (some ⟨U.heap.size, 0, none⟩) 0 0) (w' := U.alloc (.cells #[] 3)) ?_ ⟨(Below.refl _ _).alloc (Nat.le_refl _) _, rfl, by simp, heap_alloc_new _ _⟩
          simp [execOp, go_sem]
        have hc : i = 0 ∨ i = 1 ∨ i = 2 ∨ i = 3 ∨ i = 4 ∨ i = 5 ∨ i = 6 ∨ i = 7 ∨ i = 8 ∨ i = 9 ∨ i = 10 ∨ i = 11 ∨ i = 12 ∨ i = 13 ∨ i = 14 ∨ i = 15 ∨ i = 16 ∨ i = 17 := by omega
        rcases hc with rfl | rfl | rfl | rfl | rfl | rfl | rfl | rfl | rfl | rfl | rfl | rfl | rfl | rfl | rfl | rfl | rfl | rfl <;> obtain rfl := Option.some.inj ho
        · exact hnew _ _ _ _
        · have e1 := he2 4 (by kernel_rfl)
          exact gives_value (v := .pointer (some ⟨w.heap.size + 1, 0, none⟩)) (w' := U) (by simp [execOp, go_sem, e1]) ⟨Below.refl _ _, rfl⟩
        · obtain ⟨_, _, _, _, _, r4⟩ := hd 1 (by simp [mfSpec, fcSpec, lodSp])
          have r5 : ρ 1 = .pointer (some ⟨w.heap.size + 1, 0, none⟩) := r4
          exact gives_value (v := .slice a1 s.par.length c1) (w' := U) (by simp [execOp, go_sem, he1 1 43 (by omega) rfl (by decide), r5, k0]) ⟨Below.refl _ _, rfl⟩
        · obtain ⟨lo, hi', q1, q2, q3, r1, r2, r3⟩ := hd 0 (by simp [mfSpec, fcSpec, cpySp])
          obtain ⟨_, _, _, _, _, r4⟩ := hd 2 (by simp [mfSpec, fcSpec, cpySp])
          exact gives_copy (he1 0 42 (by omega) rfl (by decide)) (he1 2 44 (by omega) rfl (by decide)) r1 r3 q1 r4 hFU.l1 hFU.n1
        · exact hnew _ _ _ _
        · have e1 := he2 4 (by kernel_rfl)
          exact gives_value (v := .pointer (some ⟨w.heap.size + 1, 1, none⟩)) (w' := U) (by simp [execOp, go_sem, e1]) ⟨Below.refl _ _, rfl⟩
        · obtain ⟨_, _, _, _, _, r4⟩ := hd 5 (by simp [mfSpec, fcSpec, lodSp])
          have r5 : ρ 5 = .pointer (some ⟨w.heap.size + 1, 1, none⟩) := r4
          exact gives_value (v := .slice a2 s.hei.length c2) (w' := U) (by simp [execOp, go_sem, he1 5 47 (by omega) rfl (by decide), r5, k1]) ⟨Below.refl _ _, rfl⟩
        · obtain ⟨lo, hi', q1, q2, q3, r1, r2, r3⟩ := hd 4 (by simp [mfSpec, fcSpec, cpySp])
          obtain ⟨_, _, _, _, _, r4⟩ := hd 6 (by simp [mfSpec, fcSpec, cpySp])
          exact gives_copy (he1 4 46 (by omega) rfl (by decide)) (he1 6 48 (by omega) rfl (by decide)) r1 r3 q1 r4 hFU.l2 hFU.n2
        · exact hnew _ _ _ _
        · have e1 := he2 4 (by kernel_rfl)
          exact gives_value (v := .pointer (some ⟨w.heap.size + 1, 2, none⟩)) (w' := U) (by simp [execOp, go_sem, e1]) ⟨Below.refl _ _, rfl⟩
        · obtain ⟨_, _, _, _, _, r4⟩ := hd 9 (by simp [mfSpec, fcSpec, lodSp])
          have r5 : ρ 9 = .pointer (some ⟨w.heap.size + 1, 2, none⟩) := r4
          exact gives_value (v := .slice a3 s.ord.length c3) (w' := U) (by simp [execOp, go_sem, he1 9 51 (by omega) rfl (by decide), r5, k2]) ⟨Below.refl _ _, rfl⟩
        · obtain ⟨lo, hi', q1, q2, q3, r1, r2, r3⟩ := hd 8 (by simp [mfSpec, fcSpec, cpySp])
          obtain ⟨_, _, _, _, _, r4⟩ := hd 10 (by simp [mfSpec, fcSpec, cpySp])
          exact gives_copy (he1 8 50 (by omega) rfl (by decide)) (he1 10 52 (by omega) rfl (by decide)) r1 r3 q1 r4 hFU.l3 hFU.n3
        · exact hnew _ _ _ _
        · have e1 := he2 4 (by kernel_rfl)
          exact gives_value (v := .pointer (some ⟨w.heap.size + 1, 3, none⟩)) (w' := U) (by simp [execOp, go_sem, e1]) ⟨Below.refl _ _, rfl⟩
        · obtain ⟨_, _, _, _, _, r4⟩ := hd 13 (by simp [mfSpec, fcSpec, lodSp])
          have r5 : ρ 13 = .pointer (some ⟨w.heap.size + 1, 3, none⟩) := r4
          exact gives_value (v := .slice a4 s.ori.length c4) (w' := U) (by simp [execOp, go_sem, he1 13 55 (by omega) rfl (by decide), r5, k3]) ⟨Below.refl _ _, rfl⟩
        · obtain ⟨lo, hi', q1, q2, q3, r1, r2, r3⟩ := hd 12 (by simp [mfSpec, fcSpec, cpySp])
          obtain ⟨_, _, _, _, _, r4⟩ := hd 14 (by simp [mfSpec, fcSpec, cpySp])
          exact gives_copy (he1 12 54 (by omega) rfl (by decide)) (he1 14 56 (by omega) rfl (by decide)) r1 r3 q1 r4 hFU.l4 hFU.n4
        · obtain ⟨_, _, _, _, _, g1, d1, _, _, r1, _⟩ := hd 3 (by simp [mfSpec, fcSpec])
          obtain ⟨_, _, _, _, _, g2, d2, _, _, r2, _⟩ := hd 7 (by simp [mfSpec, fcSpec])
          obtain ⟨_, _, _, _, _, g3, d3, _, _, r3, _⟩ := hd 11 (by simp [mfSpec, fcSpec])
          obtain ⟨_, _, _, _, _, g4, d4, _, _, r4, _⟩ := hd 15 (by simp [mfSpec, fcSpec])
          exact gives_value (v := .agg #[ρ 3, ρ 7, ρ 11, ρ 15]) (w' := U) (by simp [execOp, go_sem, he1 3 45 (by omega) rfl (by decide), he1 7 49 (by omega) rfl (by decide), he1 11 53 (by omega) rfl (by decide), he1 15 57 (by omega) rfl (by decide), r1, r2, r3, r4]) ⟨Below.refl _ _, _, _, _, _, rfl, rfl⟩
        · refine gives_value (v := .pointer (some ⟨U.heap.size, 0, none⟩)) (w' := U.alloc (.cells #[.slice none 0 0, .slice none 0 0, .slice none 0 0, .slice none 0 0] 27)) ?_ ⟨(Below.refl _ _).alloc (Nat.le_refl _) _, rfl, by simp, heap_alloc_new _ _⟩
          simp [execOp, go_sem]
      · intro ρ lo hi V a ha hdef he1 he2 hb hd hdis
        have p12 := he1 17 12 (by omega) rfl (by decide)
        have p58 := he1 16 58 (by omega) rfl (by decide)
        have hb2 : Below w5.heap.size w5 V := hbW.trans hb
        obtain ⟨t1, t2, t3, m7, n7, hbox⟩ := hd 17 (by omega)
        obtain ⟨e1, _, _, m1, n1, _⟩ := hd 0 (by omega)
        obtain ⟨e2, _, _, m2, n2, _⟩ := hd 4 (by omega)
        obtain ⟨e3, _, _, m3, n3, _⟩ := hd 8 (by omega)
        obtain ⟨e4, _, _, m4, n4, _⟩ := hd 12 (by omega)
        obtain ⟨f1, _, _, x1, d1, y1, _, r1, s1, v1, u1⟩ := hd 3 (by omega)
        obtain ⟨f2, _, _, x2, d2, y2, _, r2, s2, v2, u2⟩ := hd 7 (by omega)
        obtain ⟨f3, _, _, x3, d3, y3, _, r3, s3, v3, u3⟩ := hd 11 (by omega)
        obtain ⟨f4, _, _, x4, d4, y4, _, r4, s4, v4, u4⟩ := hd 15 (by omega)
        obtain ⟨_, _, _, q1, q2, q3, q4, hq, hv⟩ := hd 16 (by omega)
        have hv2 : ρ 16 = .agg #[ρ 3, ρ 7, ρ 11, ρ 15] := by
          have e : [ρ 3, ρ 7, ρ 11, ρ 15] = [q1, q2, q3, q4] := hq
          simp at e
          obtain ⟨rfl, rfl, rfl, rfl⟩ := e
          exact hv
        have z1 : lo 0 = y1 := by
          have e : [ρ 0, ρ 2] = _ := s1
          rw [m1] at e
          injection e with e1
          injection e1 with e2
          injection e2 with e3
          injection e3
        have z2 : lo 4 = y2 := by
          have e : [ρ 4, ρ 6] = _ := s2
          rw [m2] at e
          injection e with e1
          injection e1 with e2
          injection e2 with e3
          injection e3
        have z3 : lo 8 = y3 := by
          have e : [ρ 8, ρ 10] = _ := s3
          rw [m3] at e
          injection e with e1
          injection e1 with e2
          injection e2 with e3
          injection e3
        have z4 : lo 12 = y4 := by
          have e : [ρ 12, ρ 14] = _ := s4
          rw [m4] at e
          injection e with e1
          injection e1 with e2
          injection e2 with e3
          injection e3
        have D := fun i j (h1 : i < 18) (h2 : j < 18) (h3 : i ≠ j) => hdis i j h1 h2 h3
        have ne12 : x1 ≠ x2 := by
          have := D 0 4 (by omega) (by omega) (by omega)
          have := D 0 7 (by omega) (by omega) (by omega)
          have := D 3 4 (by omega) (by omega) (by omega)
          have := D 3 7 (by omega) (by omega) (by omega)
          omega
        have ne13 : x1 ≠ x3 := by
          have := D 0 8 (by omega) (by omega) (by omega)
          have := D 0 11 (by omega) (by omega) (by omega)
          have := D 3 8 (by omega) (by omega) (by omega)
          have := D 3 11 (by omega) (by omega) (by omega)
          omega
        have ne14 : x1 ≠ x4 := by
          have := D 0 12 (by omega) (by omega) (by omega)
          have := D 0 15 (by omega) (by omega) (by omega)
          have := D 3 12 (by omega) (by omega) (by omega)
          have := D 3 15 (by omega) (by omega) (by omega)
          omega
        have ne23 : x2 ≠ x3 := by
          have := D 4 8 (by omega) (by omega) (by omega)
          have := D 4 11 (by omega) (by omega) (by omega)
          have := D 7 8 (by omega) (by omega) (by omega)
          have := D 7 11 (by omega) (by omega) (by omega)
          omega
        have ne24 : x2 ≠ x4 := by
          have := D 4 12 (by omega) (by omega) (by omega)
          have := D 4 15 (by omega) (by omega) (by omega)
          have := D 7 12 (by omega) (by omega) (by omega)
          have := D 7 15 (by omega) (by omega) (by omega)
          omega
        have ne34 : x3 ≠ x4 := by
          have := D 8 12 (by omega) (by omega) (by omega)
          have := D 8 15 (by omega) (by omega) (by omega)
          have := D 11 12 (by omega) (by omega) (by omega)
          have := D 11 15 (by omega) (by omega) (by omega)
          omega
        have nb1 : x1 ≠ lo 17 := by
          have := D 17 0 (by omega) (by omega) (by omega)
          have := D 17 3 (by omega) (by omega) (by omega)
          omega
        have nb2 : x2 ≠ lo 17 := by
          have := D 17 4 (by omega) (by omega) (by omega)
          have := D 17 7 (by omega) (by omega) (by omega)
          omega
        have nb3 : x3 ≠ lo 17 := by
          have := D 17 8 (by omega) (by omega) (by omega)
          have := D 17 11 (by omega) (by omega) (by omega)
          omega
        have nb4 : x4 ≠ lo 17 := by
          have := D 17 12 (by omega) (by omega) (by omega)
          have := D 17 15 (by omega) (by omega) (by omega)
          omega
        rw [r1] at u1
        rw [r2] at u2
        rw [r3] at u3
        rw [r4] at u4
        rw [r1, r2, r3, r4] at hv2
        have hown : OwnF V w5.heap.size (.slice (some ⟨x1, 0, none⟩) s.par.length d1) (.slice (some ⟨x2, 0, none⟩) s.hei.length d2) (.slice (some ⟨x3, 0, none⟩) s.ord.length d3) (.slice (some ⟨x4, 0, none⟩) s.ori.length d4) s := by
          have ap : ∀ {x y n1 n2 c1 c2 : Nat}, x ≠ y → ∀ b, (Value.slice (some ⟨x, 0, none⟩) n1 c1).ownBlock = some b → (Value.slice (some ⟨y, 0, none⟩) n2 c2).ownBlock ≠ some b := fun h b h1 h2 => h ((Option.some.inj h1).trans (Option.some.inj h2).symm)
          exact ⟨u1, u2, u3, u4, ap ne12, ap ne13, ap ne14, ap ne23, ap ne24, ap ne34⟩
        have HOZ : Hid (OwnF (put4 V (lo 17) (.slice (some ⟨x1, 0, none⟩) s.par.length d1) (.slice (some ⟨x2, 0, none⟩) s.hei.length d2) (.slice (some ⟨x3, 0, none⟩) s.ord.length d3) (.slice (some ⟨x4, 0, none⟩) s.ori.length d4)) w5.heap.size (.slice (some ⟨x1, 0, none⟩) s.par.length d1) (.slice (some ⟨x2, 0, none⟩) s.hei.length d2) (.slice (some ⟨x3, 0, none⟩) s.ord.length d3) (.slice (some ⟨x4, 0, none⟩) s.ori.length d4) s) := by
          have k : ∀ {x n1 c1 : Nat}, x ≠ lo 17 → ∀ g, (Value.slice (some ⟨x, 0, none⟩) n1 c1).ownBlock = some g → g < V.heap.size → (put4 V (lo 17) (.slice (some ⟨x1, 0, none⟩) s.par.length d1) (.slice (some ⟨x2, 0, none⟩) s.hei.length d2) (.slice (some ⟨x3, 0, none⟩) s.ord.length d3) (.slice (some ⟨x4, 0, none⟩) s.ori.length d4)).heap[g]? = V.heap[g]? := fun h g hg _ => put4_other (fun e => h ((Option.some.inj hg).trans e)) _ _ _ _
          exact ⟨hown.o1.same (k nb1), hown.o2.same (k nb2), hown.o3.same (k nb3), hown.o4.same (k nb4), hown.n12, hown.n13, hown.n14, hown.n23, hown.n24, hown.n34⟩
        have HBX := Nu.hid (put4_heap hbox (.slice (some ⟨x1, 0, none⟩) s.par.length d1) (.slice (some ⟨x2, 0, none⟩) s.hei.length d2) (.slice (some ⟨x3, 0, none⟩) s.ord.length d3) (.slice (some ⟨x4, 0, none⟩) s.ori.length d4))
        have HBL := Nu.hid (below_put4 hb2 (R := lo 17) (by omega) (.slice (some ⟨x1, 0, none⟩) s.par.length d1) (.slice (some ⟨x2, 0, none⟩) s.hei.length d2) (.slice (some ⟨x3, 0, none⟩) s.ord.length d3) (.slice (some ⟨x4, 0, none⟩) s.ori.length d4))
        have HLO : Hid (w5.heap.size ≤ lo 17) := t1
        have HBOX7 := Nu.hid hbox
        rw [hv2] at p58
        rw [m7] at p12
        clear hd hdis D he1 he2 u1 u2 u3 u4 hown hv2 z1 z2 z3 z4 ne12 ne13 ne14 ne23 ne24 ne34 nb1 nb2 nb3 nb4 hb hb2 hbox s1 s2 s3 s4 hq hv
        refine wpAny_ready (rs := [18]) (by kernel_rfl) (by simp) ?_
        refine AllReady.cons rfl (fun K hK => ?_) AllReady.nil
        rw [if_pos (by rfl)]
        refine Gives.wp (R := fun _ w' => w' = put4 V (lo 17) (.slice (some ⟨x1, 0, none⟩) s.par.length d1) (.slice (some ⟨x2, 0, none⟩) s.hei.length d2) (.slice (some ⟨x3, 0, none⟩) s.ord.length d3) (.slice (some ⟨x4, 0, none⟩) s.ori.length d4)) ?_ ?_
        · exact gives_store4 p12 p58 HBOX7.out
        · rintro v w' rfl
          refine hK _ _ ?_
          clear hK K
          refine wpAny_done (by kernel_rfl) ?_ _
          refine hK1 _ _ (Met.intro (K1 _ _ ?_))
          rw [ha]
          exact ⟨ρ 17, u35, u36, u37, u38, u39, u40, u41, ρ 0, ρ 1, ρ 2, ρ 3, ρ 4, ρ 5, ρ 6, ρ 7, ρ 8, ρ 9, ρ 10, ρ 11, ρ 12, ρ 13, ρ 14, ρ 15, ρ 16, ⟨lo 17, x1, x2, x3, x4, d1, d2, d3, d4, m7, HBX.out, HOZ.out, HLO.out, HBL.out⟩, by kernel_rfl⟩
    case rest =>
      obtain ⟨M, x1, x2, x3, x4, e1, e2, e3, e4, rfl, hbM, hoF, hMlo, hb6⟩ := hcut
      have hW5 : Below W.heap.size W w5 := HB4.out.trans (HBC.out.mono HB4.out.size)
      have hWc : Below W.heap.size W wc := hW5.trans (hb6.mono hW5.size)
      have h4c : Below w4.heap.size w4 wc := HBC.out.trans (hb6.mono HBC.out.size)
      have h3c : Below w3.heap.size w3 wc := HB34.out.trans (h4c.mono HB34.out.size)
      obtain ⟨g0, g1, f0, f1, f2, f3⟩ := HBOX.out wc hWc
      obtain ⟨l0, l1, l2, l3, -⟩ := four_cells ((h3c.block _ (lt_of_block HLB3.out)).trans HLB3.out)
      obtain ⟨h0, h1, -⟩ := pair_cells ((hb6.block _ (lt_of_block HBH.out)).trans HBH.out)
      obtain ⟨m0, m1, m2, m3, -⟩ := four_cells hbM
      obtain ⟨eg, lf⟩ := HLAT.out wc hWc
      obtain ⟨ao', cap', ee, -, -, eh, -⟩ := (HOE.out.below hb6 (Nat.le_refl _)).form
      cases ee
      have hs3c := h3c.size
      have hs5c := hb6.size
      have hsW := hWc.size
      have hH := lt_of_block HBH.out
      have hMM := lt_of_block hbM
      have hmem : Mem w.heap.size (w.heap.size + 1) w2.heap.size H M n ao ca es a1 a2 a3 a4 c1 c2 c3 c4 s b1 b2 b3 b4 k1 k2 k3 k4 d1 d2 d3 d4 gM cM x1 x2 x3 x4 e1 e2 e3 e4 A1 A2 A3 ls w3.heap.size rb rk rd rl wc :=
        ⟨g0, g1, f0, f1, f2, f3, l0, l1, l2, l3, h0, h1, m0, m1, m2, m3, ⟨by omega, by omega, by omega, by omega, by omega⟩, eg, eh, lf, ⟨own_lst8 hoF.o1, own_lst8 hoF.o2, own_lst8 hoF.o3, own_lst8 hoF.o4, lf.n1, lf.n2, lf.n3, lf.n4⟩, HA3.out.later h3c, HRO4.out.later h4c⟩
      have hroom : s.ord.length ≤ e3 := own_room8 hoF.o3
      have hbel : Below w.heap.size w wc := HB0.out.trans (hWc.mono HB0.out.size)
      go_step
      exact from7 hmem hroom hl HI.out HRI.out hbel

end lawLMem
end Go.Proofs.YtmgoahbloppdmaaGreat
