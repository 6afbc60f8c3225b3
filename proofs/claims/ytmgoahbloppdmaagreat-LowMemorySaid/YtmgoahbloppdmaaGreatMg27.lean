import Derived.Test.YtmgoahbloppdmaaGreatMg26
import Derived.Maps.OwnIn
/-
  returns: the return edges of an edge.
-/
namespace Go.Proofs.YtmgoahbloppdmaaGreat
open Go.RowKit Go.Shelf

attribute [local go_sem] Oper.semAt_some

/-- What has been gathered: of the first i below, and of those that have come in this round. -/
def RIn (es : List (Int × Int)) (s : Df.St) (e a i : Nat) (pre R : List Int) : Prop :=
  R.Nodup ∧ ∀ y, y ∈ R ↔ ∃ k, k < es.length ∧ y = (k : Int) ∧ (Lo.tree es s k = false ∧ Lo.ht es s k < Lo.hf es s e) ∧ ((∃ j, j < i ∧ Lo.vAt s (a + j) = Lo.fr es s k) ∨ (Lo.oh s k : Int) ∈ pre)

/-- Between two rounds. -/
def RState (es : List (Int × Int)) (s : Df.St) (e a : Nat) (V : World) (Bl i : Nat) (w : World) (Ds : List Nat) : Prop :=
  Marks V.heap.size w Ds ∧ Wrote (fun b => b = Bl) V w ∧ ∃ u R, Boxed w Bl 25 u ∧ OwnZ w V.heap.size u R ∧ RIn es s e a i [] R

theorem own_boxrow {β : Type} (B Bl V : Nat) (P : β → Value → List Int → Prop) : OwnFrom B (fun (b : β) X => ∃ u R, Boxed X Bl 25 u ∧ OwnZ X V u R ∧ P b u R) := fun b X Y row ⟨u, R, h1, h2, h3⟩ hg hr => by
  have far : ∀ {g : Nat} {c : Array Value} {t : TypeId} {fz : Nat × Nat}, X.heap[g]? = some (.cells c t fz) → Y.heap[g]? = X.heap[g]? := fun {g c t fz} h => by
    refine hg.block g (lt_of_block h) (fun e => ?_)
    obtain ⟨_, o, ho, hc⟩ := hr g e.symm
    rw [h] at ho
    cases ho
    cases hc
  refine ⟨u, R, (far h1).trans h1, ⟨h2.1, ?_⟩, h3⟩
  rcases h2.2 with h | ⟨g, cap, cur, e1, hgB, hh, hr⟩
  · exact .inl h
  · exact .inr ⟨g, cap, cur, e1, hgB, (far hh).trans hh, hr⟩
theorem own_wrote {β : Type} {Bl B : Nat} {V : World} (hB : V.heap.size ≤ B) : OwnFrom B (fun (_ : β) X => Wrote (fun b => b = Bl) V X) := fun _ X Y row h hg hr =>
  ⟨hg.os.trans h.os, hg.tape.trans h.tape, hg.output.trans h.output, Nat.le_trans h.size hg.size, fun k hk hn => (hg.block k (Nat.lt_of_lt_of_le hk h.size) (fun e => by have := (hr k e.symm).1; omega)).trans (h.block k hk hn)⟩
theorem own_marks {β : Type} {B V : Nat} {Ds : List Nat} (h : ∀ D ∈ Ds, D < B) : OwnFrom B (fun (_ : β) X => Marks V X Ds) := fun _ X Y row hm hg hr =>
  ⟨hm.nod, fun D hD => (hg.block D (lt_of_block (hm.lie D hD)) (fun e => by have := (hr D e.symm).1; have := h D hD; omega)).trans (hm.lie D hD), hm.lo⟩

section
variable {p : Nat} {av : Value} {n : Nat} {es : List (Int × Int)} {f : For} {s : Df.St}

def RetsPost (l : List Nat) (w : World) (r : Ending) (w' : World) : Prop := ∃ v, r = .returned v ∧ OwnZ w' w.heap.size v (zs l) ∧ Below w.heap.size w w'

set_option maxRecDepth 100000 in
set_option maxHeartbeats 16000000 in
theorem preturns_any (e : Nat) (w : World) (hd : Wd w p av n es f s) (he : e < es.length) (hcap : n ≤ f.c3) :
    Calls Tryz.prog 25 #[.pointer (some ⟨p, 0, none⟩), .int .i64 (e : Int)] w (RetsPost (Lo.rets es s e) w) := by
  have hfew := hd.val.few
  have hn := hd.val.hi
  obtain ⟨ho1, ho2, ho3, ho4⟩ := Lo.oh_of hd.vf he
  obtain ⟨b4, o4, e4, d4⟩ := hd.ori he
  obtain ⟨hh, hhe⟩ : ∃ hh, Lo.oh s e = hh := ⟨_, rfl⟩
  rw [hhe] at ho1 ho3
  obtain ⟨W0, hW0⟩ : ∃ W0, W0 = w.alloc (.cells #[.pointer (some ⟨p, 0, none⟩)] 54) := ⟨_, rfl⟩
  obtain ⟨W, hW⟩ : ∃ W, W = W0.alloc (.cells #[.int .i64 (hh : Int)] 3) := ⟨_, rfl⟩
  have hb0 : Below w.heap.size w W0 := by rw [hW0]; exact (Below.refl _ _).alloc (Nat.le_refl _) _
  have hs0 : W0.heap.size = w.heap.size + 1 := by rw [hW0]; simp
  have hbW : Below w.heap.size w W := by rw [hW]; exact hb0.alloc hb0.size _
  have hsW : W.heap.size = w.heap.size + 2 := by rw [hW]; simp [hs0]
  have bw : Boxed W w.heap.size 54 (.pointer (some ⟨p, 0, none⟩)) := by rw [hW, hW0]; exact (Boxed.new w _ _).alloc _
  have bh : Boxed W (w.heap.size + 1) 3 (.int .i64 (hh : Int)) := by
    rw [hW]
    have := Boxed.new W0 3 (.int .i64 (hh : Int))
    rwa [hs0] at this
  have c4 := (hd.later hb0).c4
  rw [e4] at c4
  have d4e := d4 W0 hb0 e he
  rw [ho1] at d4e
  have HBK : Hid (Calls Tryz.prog 44 #[.pointer (some ⟨p, 0, none⟩), .int .i64 (hh : Int)] W fun e w' => e = .returned (.bool (Df.at_ s.par (Cs.to es hh) != (hh : Int))) ∧ Below W.heap.size W w') := back1_any hh ho3 (hd.later hbW)
  have hto := (Cs.half_lt hd.val ho3).2
  obtain ⟨t, ht⟩ : ∃ t, Cs.to es hh = t := ⟨_, rfl⟩
  obtain ⟨pt, hpt⟩ : ∃ pt, Df.at_ s.par t = pt := ⟨_, rfl⟩
  rw [ht, hpt] at HBK
  rw [ht] at hto
  have HTR : Hid (Lo.tree es s e = true ↔ pt = (hh : Int)) := by
    have := Lo.tree_iff hd.vf he
    unfold Lo.go_ at this
    rw [hhe, ht, hpt] at this
    exact this
  have HD := Nu.hid hd
  have HWW : Hid (W = (w.alloc (.cells #[.pointer (some ⟨p, 0, none⟩)] 54)).alloc (.cells #[.int .i64 (hh : Int)] 3)) := by rw [← hW0]; exact hW
  have HBW := Nu.hid hbW
  have x0 : (0 : Int) ≤ (e : Int) := by omega
  have x1 : (e : Int) < (es.length : Int) := by omega
  have cw := bw.cell
  have ch := bh.cell
  rw [hW0] at c4 d4e
  rw [hW, hW0] at cw ch
  clear hd hW hW0 d4 hb0 hpt e4
  refine (callsIn_wide (n := 13)).1 ?_
  refine callsIn_of_wp_marks Tryz.func25 rfl trivial ?_ rfl
  simp only [Tryz.ntmps25, List.size_toArray, List.length_cons, List.length_nil, Nat.reduceAdd, Nat.reduceSub, Array.replicate_succ, Array.replicate_zero, List.push_toArray, List.append_toArray, List.nil_append, List.cons_append]
  refine wpIn_wide.2 ?_
  by_cases hback : pt = (hh : Int)
  · have HTE : Hid (Lo.tree es s e = true) := HTR.out.2 hback
    have htn : t < n := hto
    have HTO : Hid (∀ V, Below w.heap.size w V → Calls Tryz.prog 46 #[av, .int .i64 (hh : Int)] V fun e w' => e = .returned (.int .i64 (t : Int)) ∧ w' = V) := fun V hV => (to_any av n es (hh : Int) V (HD.out.later hV).adj).mono fun e w' ⟨he, hw⟩ => ⟨by rw [he, Cs.toI_in ho3, ht], hw⟩
    have HBL : Hid (∀ V, Below w.heap.size w V → Calls Tryz.prog 45 #[.pointer (some ⟨p, 0, none⟩), .int .i64 (t : Int)] V (BelPost n s t V)) := fun V hV => below8_any t V (HD.out.later hV) htn hcap
    go_wp2_with (go_at_call 44; rw [← HWW.out]; refine HBK.out.mono ?_; rintro r w1 ⟨rfl, hb1⟩; clear cw ch; refine Hid.out ?_)
    refine Nu.hid ?_
    have hs1 := hb1.size
    have hb2 : Below w.heap.size w w1 := HBW.out.trans (hb1.mono HBW.out.size)
    have bw1 := (hb1.block _ bw.lt).trans bw
    have bh1 := (hb1.block _ bh.lt).trans bh
    obtain ⟨w2, hw2⟩ : ∃ w2, w2 = w1.alloc (.cells #[.slice none 0 0] 25) := ⟨_, rfl⟩
    have hb12 : Below w1.heap.size w1 w2 := by rw [hw2]; exact (Below.refl _ _).alloc (Nat.le_refl _) _
    have hs2 : w2.heap.size = w1.heap.size + 1 := by rw [hw2]; simp
    have bl2 : Boxed w2 w1.heap.size 25 (.slice none 0 0) := by rw [hw2]; exact Boxed.new _ _ _
    have bw2 : Boxed w2 w.heap.size 54 (.pointer (some ⟨p, 0, none⟩)) := (hb12.block _ (Boxed.lt bw1)).trans bw1
    have bh2 : Boxed w2 (w.heap.size + 1) 3 (.int .i64 (hh : Int)) := (hb12.block _ (Boxed.lt bh1)).trans bh1
    have hB2 : Below w.heap.size w w2 := hb2.trans (hb12.mono hb2.size)
    have HS : Hid (∀ V, Below w2.heap.size w2 V → (V.cell? ⟨w.heap.size, 0, none⟩ = some (.pointer (some ⟨p, 0, none⟩)) ∧ V.cell? ⟨w.heap.size + 1, 0, none⟩ = some (.int .i64 (hh : Int)) ∧ V.cell? ⟨p, 0, none⟩ = some av ∧ Below w2.heap.size w2 V)) := fun V hV =>
      ⟨Boxed.cell ((hV.block _ bw2.lt).trans bw2), Boxed.cell ((hV.block _ bh2.lt).trans bh2), (HD.out.later (hB2.trans (hV.mono hB2.size))).c0, hV⟩
    have HTO2 : Hid (∀ V, Below w2.heap.size w2 V → Calls Tryz.prog 46 #[av, .int .i64 (hh : Int)] V fun e w' => e = .returned (.int .i64 (t : Int)) ∧ w' = V) := fun V hV => HTO.out V (hB2.trans (hV.mono hB2.size))
    have HBL2 : Hid (∀ V, Below w2.heap.size w2 V → Calls Tryz.prog 45 #[.pointer (some ⟨p, 0, none⟩), .int .i64 (t : Int)] V fun e V' => ∃ a k b o c, e = .returned (.slice (some ⟨b, o, none⟩) k c) ∧ (a < n ∧ Lo.vAt s a = t ∧ 0 < k ∧ a + k ≤ n ∧ (∀ i, 0 < i → i < k → Df.at_ s.hei t < Df.at_ s.hei (Lo.vAt s (a + i))) ∧ (a + k < n → Df.at_ s.hei (Lo.vAt s (a + k)) ≤ Df.at_ s.hei t) ∧ (∀ W, Below V.heap.size V W → ∀ i, i < k → W.cell? ⟨b, o + i, none⟩ = some (.int .i64 (Lo.vAt s (a + i) : Int)))) ∧ Below V.heap.size V V') := fun V hV => (HBL.out V (hB2.trans (hV.mono hB2.size))).mono fun e V' ⟨a, k, b, o, c, h1, h2, h3, h4, h5, h6, h7, h8, h9⟩ => ⟨a, k, b, o, c, h7, ⟨h1, h2, h3, h4, h5, h6, h8⟩, h9⟩
    have hbd : Below w2.heap.size w2 w2.drew := (Below.refl _ _).drew
    have HW2 := Nu.hid hw2
    clear hw2
    go_wp2_with fail
    rw [← HW2.out]
    go_region_held3 (fun V => V.cell? ⟨w.heap.size, 0, none⟩ = some (.pointer (some ⟨p, 0, none⟩)) ∧ V.cell? ⟨w.heap.size + 1, 0, none⟩ = some (.int .i64 (hh : Int)) ∧ V.cell? ⟨p, 0, none⟩ = some av ∧ Below w2.heap.size w2 V)
      (exact HS.out _ (by first | assumption | exact hbd))
      ((first | (go_at_call 46; refine (HTO2.out _ (by first | assumption | exact hbd)).mono ?_; rintro r V1 ⟨rfl, rfl⟩) | (go_at_call 45; refine (HBL2.out _ (by first | assumption | exact hbd)).mono ?_; rintro r V2 ⟨a, k, b, o, c, rfl, hbel, hb3⟩; have hb4 : Below w2.heap.size w2 V2 := Below.trans (by first | assumption | exact hbd) (hb3.mono (Below.size (by first | assumption | exact hbd))))))
    obtain ⟨ha, hva, hk0, hak, hrun, hend, hcell⟩ := hbel
    have HCELL : Hid (∀ W, Below w2.heap.size w2 W → ∀ i, i < k → W.cell? ⟨b, o + i, none⟩ = some (.int .i64 (Lo.vAt s (a + i) : Int))) := fun W hW => hcell W ⟨hW.os, hW.tape, hW.output, hW.size, hW.block⟩
    have hsV := hb4.size
    have hBV : Below w.heap.size w V2 := hB2.trans (hb4.mono hB2.size)
    have blV : Boxed V2 w1.heap.size 25 (.slice none 0 0) := (hb4.block _ bl2.lt).trans bl2
    have bwV : Boxed V2 w.heap.size 54 (.pointer (some ⟨p, 0, none⟩)) := (hb4.block _ bw2.lt).trans bw2
    have bhV : Boxed V2 (w.heap.size + 1) 3 (.int .i64 (hh : Int)) := (hb4.block _ bh2.lt).trans bh2
    have HBEL : Hid (∀ x : Nat, x < n → (Df.Anc es s t x ↔ ∃ i, i < k ∧ Lo.vAt s (a + i) = x)) := fun x hx => Lo.below_iff HD.out.val HD.out.vf htn ha hva hk0 hak hrun hend hx
    have HB4 := Nu.hid hb4
    have hkn : (k : Int) ≤ 1048576 := by omega
    clear hb3 hb4 HS HTO HTO2 HBL HBL2 hbd hcell hrun hend bl2 bw2 bh2 bw1 bh1
    go_wp2_with fail
    refine wp_loop (fun A0 wr => ∃ (i : Nat) (y8 y33 y34 y35 y36 y37 y38 y57 : Value) (Ds : List Nat), i ≤ k ∧ A0 = { tmps := #[.pointer (some ⟨p, 0, none⟩), .int .i64 (e : Int), .pointer (some ⟨w.heap.size, 0, none⟩), undef, .slice none 0 0, .pointer (some ⟨w.heap.size + 1, 0, none⟩), .pointer (some ⟨w1.heap.size, 0, none⟩), undef, y8, undef,
        .pointer (some ⟨p, 0, none⟩), .pointer (some ⟨p, 0, none⟩), .pointer (some ⟨p, 1, none⟩), .pointer (some ⟨p, 4, none⟩), .slice (some ⟨b4, o4, none⟩) es.length f.c4, .int .i64 (e : Int), .pointer (some ⟨b4, o4 + e, none⟩), .int .i64 (hh : Int), .pointer (some ⟨p, 0, none⟩), .int .i64 (hh : Int), .bool false, undef, undef,
        .pointer (some ⟨p, 0, none⟩), .pointer (some ⟨p, 0, none⟩), .pointer (some ⟨p, 0, none⟩), .pointer (some ⟨p, 0, none⟩), av, .int .i64 (hh : Int), .int .i64 (t : Int), .slice (some ⟨b, o, none⟩) k c, .int .i64 (k : Int), .int .i64 (i : Int), y33, y34, y35, y36, y37, y38,
        undef, undef, undef, undef, undef, undef, undef, undef, undef, undef, undef, undef, undef, undef, undef, undef, undef, undef, y57, undef, undef, undef], defers := Ds.map mkD } ∧ RState es s e a V2 w1.heap.size i wr Ds) (fun A0 _ => k - (intOf (A0.eval (.tmp 32))).toNat) ?start ?round
    case start => exact ⟨0, _, _, _, _, _, _, _, _, [], Nat.zero_le _, rfl, ⟨by simp, by simp, by simp⟩, Wrote.refl _ _, _, [], blV, .nil _ _, by simp, fun y => by simp⟩
    case round =>
      rintro A0 wr ⟨i, y8, y33, y34, y35, y36, y37, y38, y57, Ds, hik, rfl, hst⟩
      obtain ⟨hmk, hwr, u, R, bu, hu, hR⟩ := hst
      have hRl : R.length ≤ es.length := Lo.few_of hR.1 fun y hy => by
        obtain ⟨k', hk', rfl, -⟩ := (hR.2 y).1 hy
        omega
      have cu := bu.cell
      by_cases hlt : i < k
      · have hvx := Lo.vAt_eq HD.out.vf (j := a + i) (by omega)
        obtain ⟨x, hx⟩ : ∃ x, Lo.vAt s (a + i) = x := ⟨_, rfl⟩
        have hxn : x < n := by rw [← hx]; exact hvx.2
        have cV := HCELL.out V2 HB4.out i hlt
        have hbB : b ≠ w1.heap.size := fun eb => by
          rw [eb] at cV
          have hblk : V2.heap[w1.heap.size]? = some (.cells #[.slice none 0 0] 25 (0, 0)) := blV
          simp only [World.cell?, hblk] at cV
          by_cases h0 : o + i = 0
          · simp [h0] at cV
          · have : 1 ≤ o + i := by omega
            simp [Array.getElem?_eq_none, this] at cV
        have cx : wr.cell? ⟨b, o + i, none⟩ = some (.int .i64 (x : Int)) := by
          rw [← hx]
          exact (World.cell?_of_block (a := ⟨b, o + i, none⟩) (hwr.block b (block_lt_of_cell cV) hbB)).trans cV
        have bwr : Boxed wr w.heap.size 54 (.pointer (some ⟨p, 0, none⟩)) := (hwr.block _ bwV.lt (by omega)).trans bwV
        have bhr : Boxed wr (w.heap.size + 1) 3 (.int .i64 (hh : Int)) := (hwr.block _ bhV.lt (by omega)).trans bhV
        have cw := bwr.cell
        have HFR : Hid (∀ X, Calls Tryz.prog 35 #[.pointer (some ⟨p, 0, none⟩), .int .i64 (x : Int)] X (FromPost p (x : Int) X)) := fun X => wfrom_any p _ X
        have i0 : (0 : Int) ≤ (i : Int) := by omega
        have i1 : (i : Int) < (k : Int) := by omega
        have HMK := Nu.hid hmk
        have HWR := Nu.hid hwr
        have HU := Nu.hid hu
        have HBU := Nu.hid bu
        have HRR := Nu.hid hR
        have HX := Nu.hid hx
        clear hmk hwr hu bu hR cV hx hvx cu
        go_wp2_with (go_at_call 35; refine (HFR.out _).mono ?_; rintro r w5 ⟨Bx, Bv, rfl, hBx, hBv, bx, bv, hb5⟩)
        refine (wpIn_wide (n := 13)).1 ?_
        have hs5 := hb5.size
        have hsr := HWR.out.size
        have hbr : Below w.heap.size w wr := hBV.trans (HWR.out.below hBV.size (fun b hb => by omega))
        have hb5w : Below w.heap.size w w5 := hbr.trans (hb5.mono hbr.size)
        have hDs : ∀ D ∈ Ds, D < w5.heap.size := fun D hD => Nat.lt_of_lt_of_le (lt_of_block (HMK.out.lie D hD)) hs5
        have bl5 := HBU.out.lt
        have hw5 : Wrote (fun b => b = w1.heap.size) V2 w5 := HWR.out.later hb5
        have hm5 : Marks V2.heap.size w5 Ds := ⟨HMK.out.nod, fun D hD => (hb5.block D (lt_of_block (HMK.out.lie D hD))).trans (HMK.out.lie D hD), HMK.out.lo⟩
        have hS4 : ∀ bb, (bb = w1.heap.size ∨ u.ownBlock = some bb ∨ w5.heap.size + 4 ≤ bb) → bb < w5.heap.size ∨ w5.heap.size + 4 ≤ bb := fun bb hb => by
          rcases hb with rfl | hb | hb
          · left; omega
          · left
            have := (OwnZ.lt HU.out hb).2
            omega
          · exact .inr hb
        refine it_out (n := 13) (gf := 58) (lb := #[.pointer (some ⟨Bx, 0, none⟩), .pointer (some ⟨Bv, 0, none⟩)]) (by rfl) (enters_of Tryz.func58 (by kernel_rfl) rfl)
          (from_it x Bx Bv (fun bb => bb = w1.heap.size ∨ u.ownBlock = some bb ∨ w5.heap.size + 4 ≤ bb) w w5 HD.out hb5w hxn bx bv (fun hs => by
            have hlx : Bx < w5.heap.size := Boxed.lt bx
            rcases hs with h | h | h
            · omega
            · have := (OwnZ.lt HU.out h).2
              omega
            · omega) hS4) hb5w.size (fun _ => rfl)
          (fun pre C => (∃ u' R', Boxed C w1.heap.size 25 u' ∧ OwnZ C V2.heap.size u' R' ∧ (∀ bb, u'.ownBlock = some bb → u.ownBlock = some bb ∨ w5.heap.size + 4 ≤ bb) ∧ RIn es s e a i pre R') ∧ (Wrote (fun b => b = w1.heap.size) V2 C ∧ (Kep w.heap.size (fun bb => bb = w1.heap.size ∨ u.ownBlock = some bb ∨ w5.heap.size + 4 ≤ bb) w5 C ∧ Marks V2.heap.size C Ds))) (fun _ _ _ => False)
          (OwnFrom.and (own_boxrow _ w1.heap.size V2.heap.size (fun (pre : List Int) u' R' => (∀ bb, u'.ownBlock = some bb → u.ownBlock = some bb ∨ w5.heap.size + 4 ≤ bb) ∧ RIn es s e a i pre R')) (OwnFrom.and (own_wrote (by omega)) (OwnFrom.and (Kep.own hb5w.size hb5w.size) (own_marks hDs)))) (fun _ _ _ _ _ hs _ _ => hs)
          ⟨⟨u, R, (hb5.block _ bl5).trans HBU.out, HU.out.later hb5, fun bb h => .inl h, HRR.out⟩, hw5, Kep.refl _ _ _, hm5⟩
          (fun h a' _ => a' = { tmps := #[.pointer (some ⟨p, 0, none⟩), .int .i64 (e : Int), .pointer (some ⟨w.heap.size, 0, none⟩), undef, .slice none 0 0, .pointer (some ⟨w.heap.size + 1, 0, none⟩), .pointer (some ⟨w1.heap.size, 0, none⟩), undef, .int .i64 (x : Int), .int .i64 h,
        .pointer (some ⟨p, 0, none⟩), .pointer (some ⟨p, 0, none⟩), .pointer (some ⟨p, 1, none⟩), .pointer (some ⟨p, 4, none⟩), .slice (some ⟨b4, o4, none⟩) es.length f.c4, .int .i64 (e : Int), .pointer (some ⟨b4, o4 + e, none⟩), .int .i64 (hh : Int), .pointer (some ⟨p, 0, none⟩), .int .i64 (hh : Int), .bool false, undef, undef,
        .pointer (some ⟨p, 0, none⟩), .pointer (some ⟨p, 0, none⟩), .pointer (some ⟨p, 0, none⟩), .pointer (some ⟨p, 0, none⟩), av, .int .i64 (hh : Int), .int .i64 (t : Int), .slice (some ⟨b, o, none⟩) k c, .int .i64 (k : Int), .int .i64 (i : Int), .bool true, .pointer (some ⟨b, o + i, none⟩), .int .i64 (x : Int), .pointer (some ⟨p, 0, none⟩), .int .i64 (x : Int), .func (.func 58) #[] #[.pointer (some ⟨Bx, 0, none⟩), .pointer (some ⟨Bv, 0, none⟩)],
        .int .i64 h, undef, undef, undef, undef, undef, undef, undef, undef, undef, undef, undef, undef, undef, undef, undef, undef, undef, y57, undef, undef, undef], defers := [] })
          (fun h a' => ownFrom_pure _ _) ?assign ?body ?done ?stop
        case assign =>
          intro l pre h X K _ hi hK
          gi_wp2
          exact hK _ _ (KeepsFrom.refl _ _) (Kep.refl _ _ _) hi rfl
        case body =>
          rintro l pre h a' C ⟨hl2, hC4⟩ _ hpx ⟨⟨u', R', bu', hu', hub, hR'⟩, hwC, hkC, hmC⟩ rfl
          obtain ⟨k', hk', hfk, rfl⟩ := (Lo.mem_frL HD.out.vf hxn).1 (hpx.subset (List.mem_append_right pre (List.mem_singleton.2 rfl)))
          have hnin : (Lo.oh s k' : Int) ∉ pre := fun hin => by
            have hnd := (hpx.sublist.nodup (Lo.frL_nodup hxn))
            exact (List.nodup_append.1 hnd).2.2 _ hin _ (List.mem_singleton.2 rfl) rfl
          obtain ⟨po1, po2, po3, po4⟩ := Lo.oh_of HD.out.vf hk'
          have hbC : Below w.heap.size w C := hb5w.trans hkC.1
          have hdC := HD.out.later hbC
          have bwC : Boxed C w.heap.size 54 (.pointer (some ⟨p, 0, none⟩)) := (hwC.block _ bwV.lt (by omega)).trans bwV
          have bhC : Boxed C (w.heap.size + 1) 3 (.int .i64 (hh : Int)) := (hwC.block _ bhV.lt (by omega)).trans bhV
          have cw1 : ∀ D : LW C, D.val.cell? ⟨w.heap.size, 0, none⟩ = some (.pointer (some ⟨p, 0, none⟩)) := fun D => Boxed.cell ((D.h.block _ bwC.lt).trans bwC)
          have ch1 : ∀ D : LW C, D.val.cell? ⟨w.heap.size + 1, 0, none⟩ = some (.int .i64 (hh : Int)) := fun D => Boxed.cell ((D.h.block _ bhC.lt).trans bhC)
          have HBG : Hid (∀ D : LW C, Calls Tryz.prog 37 #[.pointer (some ⟨p, 0, none⟩), .int .i64 (hh : Int)] D.val fun e w' => e = .returned (.int .i64 (Df.at_ s.hei (Cs.fr es hh))) ∧ Below D.val.heap.size D.val w') := fun D => begins_any hh ho3 (hdC.later D.h)
          have HEN : Hid (∀ D : LW C, Calls Tryz.prog 47 #[.pointer (some ⟨p, 0, none⟩), .int .i64 (Lo.oh s k' : Int)] D.val fun e w' => e = .returned (.int .i64 (Df.at_ s.hei (Cs.to es (Lo.oh s k')))) ∧ Below D.val.heap.size D.val w') := fun D => ends_any (Lo.oh s k') po3 (hdC.later D.h)
          have HBC : Hid (∀ D : LW C, Calls Tryz.prog 44 #[.pointer (some ⟨p, 0, none⟩), .int .i64 (Lo.oh s k' : Int)] D.val fun e w' => e = .returned (.bool (Df.at_ s.par (Cs.to es (Lo.oh s k')) != (Lo.oh s k' : Int))) ∧ Below D.val.heap.size D.val w') := fun D => back1_any (Lo.oh s k') po3 (hdC.later D.h)
          have htk := Lo.tree_iff HD.out.vf hk'
          have hhf : Lo.hf es s e = Df.at_ s.hei (Cs.fr es hh) := by unfold Lo.hf Lo.fr; rw [hhe]
          have hht : Lo.ht es s k' = Df.at_ s.hei (Cs.to es (Lo.oh s k')) := rfl
          unfold Lo.go_ at htk
          obtain ⟨q, hq⟩ : ∃ q, Lo.oh s k' = q := ⟨_, rfl⟩
          rw [hq] at HEN HBC htk hht hnin po3 po4
          obtain ⟨pq, hpq⟩ : ∃ z, Df.at_ s.par (Cs.to es q) = z := ⟨_, rfl⟩
          obtain ⟨hq1, ehq1⟩ : ∃ z, Df.at_ s.hei (Cs.to es q) = z := ⟨_, rfl⟩
          obtain ⟨hf1, ehf1⟩ : ∃ z, Df.at_ s.hei (Cs.fr es hh) = z := ⟨_, rfl⟩
          rw [hpq] at HBC htk
          rw [ehq1] at HEN hht
          rw [ehf1] at HBG hhf
          have hne := LW.any C
          have HBU2 := Nu.hid bu'
          have HHU2 := Nu.hid hu'
          have HWC := Nu.hid hwC
          have HKC := Nu.hid hkC
          have HMC := Nu.hid hmC
          have hsame : ∀ k2, k2 < es.length → ((Lo.oh s k2 : Int) ∈ pre ++ [(q : Int)] ↔ (Lo.oh s k2 : Int) ∈ pre ∨ k2 = k') := fun k2 hk2 => by
            rw [List.mem_append, List.mem_singleton]
            constructor
            · rintro (h | h)
              · exact .inl h
              · right
                have h3 := (Lo.oh_of HD.out.vf hk2).2.2.2
                omega
            · rintro (h | rfl)
              · exact .inl h
              · right
                rw [hq]
          have hnoR : ¬ (Lo.tree es s k' = false ∧ Lo.ht es s k' < Lo.hf es s e) → RIn es s e a i (pre ++ [(q : Int)]) R' := fun hc => by
            refine ⟨hR'.1, fun y => ?_⟩
            rw [hR'.2 y]
            constructor
            · rintro ⟨k2, h1, h2, h3, h4 | h4⟩
              · exact ⟨k2, h1, h2, h3, .inl h4⟩
              · exact ⟨k2, h1, h2, h3, .inr ((hsame k2 h1).2 (.inl h4))⟩
            · rintro ⟨k2, h1, h2, h3, h4 | h4⟩
              · exact ⟨k2, h1, h2, h3, .inl h4⟩
              · rcases (hsame k2 h1).1 h4 with h5 | rfl
                · exact ⟨k2, h1, h2, h3, .inr h5⟩
                · exact absurd h3 hc
          rw [hq]
          clear bu' hu' hwC hkC hmC
          by_cases c1 : pq = (q : Int)
          · have HNO : Hid (RIn es s e a i (pre ++ [(q : Int)]) R') := hnoR (fun hc => by rw [htk.2 c1] at hc; cases hc.1)
            have eb : (pq != (q : Int)) = false := by simp [c1]
            rw [eb] at HBC
            gi_wp2
            refine wpIn_region_lw (by kernel_rfl) (by kernel_rfl) (by kernel_rfl) ?_
            repeat (go_big_quiet_step ((first | (go_at_call 44; exact Calls.lw (HBC.out _)) | (go_at_call 47; exact Calls.lw (HEN.out _)) | (go_at_call 37; exact Calls.lw (HBG.out _)))))
            refine wpQuiet_nil ?_
            rintro _ ⟨E, rfl⟩
            clear cw1 ch1 hne HBG HEN HBC
            gi_wp2
            exact ⟨kf_below E.h, (Kep.refl _ _ _).grow E.h hbC.size, ⟨u', R', (E.h.block _ HBU2.out.lt).trans HBU2.out, HHU2.out.later E.h, hub, HNO.out⟩, HWC.out.later E.h, HKC.out.grow E.h hbC.size, ⟨HMC.out.nod, fun D hD => (E.h.block D (lt_of_block (HMC.out.lie D hD))).trans (HMC.out.lie D hD), HMC.out.lo⟩⟩
          · have eb : (pq != (q : Int)) = true := by simp [c1]
            rw [eb] at HBC
            by_cases c2 : hq1 < hf1
            · have hR'l : R'.length ≤ es.length := Lo.few_of hR'.1 fun y hy => by
                obtain ⟨k2, hk2, rfl, -⟩ := (hR'.2 y).1 hy
                omega
              have HRN : Hid (RIn es s e a i (pre ++ [(q : Int)]) (R' ++ [(k' : Int)])) := by
                have hnk : (k' : Int) ∉ R' := fun hin => by
                  obtain ⟨k2, h1, h2, h3, h4⟩ := (hR'.2 _).1 hin
                  have e2 : k2 = k' := by omega
                  subst e2
                  rcases h4 with ⟨j, hj, ej⟩ | h4
                  · have v1 := Lo.vAt_eq HD.out.vf (j := a + j) (by omega)
                    have v2 := Lo.vAt_eq HD.out.vf (j := a + i) (by omega)
                    refine HD.out.vf.once.ne (a := a + j) (b := a + i) (by omega) (by omega) (by omega) ?_
                    rw [v1.1, v2.1, ej, HX.out, hfk]
                  · rw [hq] at h4
                    exact hnin h4
                refine ⟨List.nodup_append.2 ⟨hR'.1, by simp, fun y hy z hz => ?_⟩, fun y => ?_⟩
                · obtain rfl := List.mem_singleton.1 hz
                  exact fun e3 => hnk (e3 ▸ hy)
                · rw [List.mem_append, List.mem_singleton, hR'.2 y]
                  constructor
                  · rintro (⟨k2, h1, h2, h3, h4 | h4⟩ | rfl)
                    · exact ⟨k2, h1, h2, h3, .inl h4⟩
                    · exact ⟨k2, h1, h2, h3, .inr ((hsame k2 h1).2 (.inl h4))⟩
                    · refine ⟨k', hk', rfl, ⟨?_, by rw [hht, hhf]; exact c2⟩, .inr ((hsame k' hk').2 (.inr rfl))⟩
                      cases h : Lo.tree es s k' with
                      | false => rfl
                      | true => exact absurd (htk.1 h) c1
                  · rintro ⟨k2, h1, h2, h3, h4 | h4⟩
                    · exact .inl ⟨k2, h1, h2, h3, .inl h4⟩
                    · rcases (hsame k2 h1).1 h4 with h5 | rfl
                      · exact .inl ⟨k2, h1, h2, h3, .inr h5⟩
                      · exact .inr h2
              have htd : (q : Int).tdiv 2 = (k' : Int) := by rw [Int.tdiv_eq_ediv_of_nonneg (by omega)]; omega
              have htd2 : (q : Int) / 2 = (k' : Int) := by omega
              have q0 : (0 : Int) ≤ (q : Int) := by omega
              obtain ⟨i0', hi', hz0, hz1, hz2⟩ := info_parts Tryz.infoNum
              gi_wp2
              refine wpIn_region_lw (by kernel_rfl) (by kernel_rfl) (by kernel_rfl) ?_
              repeat (go_big_quiet_step ((first | (go_at_call 44; exact Calls.lw (HBC.out _)) | (go_at_call 47; exact Calls.lw (HEN.out _)) | (go_at_call 37; exact Calls.lw (HBG.out _)))))
              refine wpQuiet_nil ?_
              rintro _ ⟨E, rfl⟩
              clear cw1 ch1 hne HBG HEN HBC
              
              have hEs := E.h.size
              have buE : Boxed E.val w1.heap.size 25 u' := (E.h.block _ HBU2.out.lt).trans HBU2.out
              have hoE := HHU2.out.later E.h
              have cuE := buE.cell
              have hlB : w1.heap.size < V2.heap.size := by omega
              have HOX := Nu.hid hoE
              have HBE := Nu.hid buE
              clear buE hoE
              gi_wp2_with (gi_at_builtin; refine wpListIn_append_own_at _ rfl _ _ 25 rfl V2.heap.size 3 i0' (.int .i64 0) 1 8 Tryz.underlying25 hi' hz0 hz1 hz2 rfl (by decide) _ _ _ rfl (World.ownsRow.alloc HOX.out _) ⟨E.val.heap.size, 0, none⟩ 1 1 [.int .i64 (k' : Int)] rfl rfl (cell_one_new _ _ _) (by simp [Value.oneCell']) (by unfold maxLen; omega) (by omega) (by simp; omega) ?_; refine Hid.out ?_)
              refine Nu.hid ?_
              intro v4 w7 hown4 hgrow4 _ hat4
              obtain ⟨g4, c4', hv4⟩ := own_succ hown4
              subst hv4
              have hfar : ∀ bb, u'.ownBlock = some bb → V2.heap.size ≤ bb ∧ bb < C.heap.size := fun bb hb => OwnZ.lt HHU2.out hb
              have hgr : ∀ kk, kk < C.heap.size → u'.ownBlock ≠ some kk → w7.heap[kk]? = C.heap[kk]? := fun kk hkk hne2 => by
                rw [hgrow4.block kk (by simp; omega) (fun e3 => hne2 e3.symm), Below.heap_alloc _ _ kk (by omega)]
                exact E.h.block kk hkk
              have hs7 : E.val.heap.size + 1 ≤ w7.heap.size := by
                have := hgrow4.size
                rw [World.size_alloc] at this
                exact this
              have bu7 : Boxed w7 w1.heap.size 25 u' := (hgr _ HBU2.out.lt (fun e3 => by have := (hfar _ e3).1; omega)).trans HBU2.out
              have cu7 := bu7.cell
              have fu7 := bu7.frozen
              have ho4 : OwnZ w7 V2.heap.size (.slice (some ⟨g4, 0, none⟩) (R'.length + 1) c4') (R' ++ [(k' : Int)]) := by
                unfold OwnZ
                rw [List.length_append, List.map_append]
                exact hown4
              have hg4V : V2.heap.size ≤ g4 := (OwnZ.lt ho4 rfl).1
              obtain ⟨X, hX⟩ : ∃ X, X = w7.setCell ⟨w1.heap.size, 0, none⟩ (.slice (some ⟨g4, 0, none⟩) (R'.length + 1) c4') := ⟨_, rfl⟩
              have hXo : ∀ kk, kk ≠ w1.heap.size → X.heap[kk]? = w7.heap[kk]? := fun kk hkk => by rw [hX]; exact heap_setCell_other w7 ⟨w1.heap.size, 0, none⟩ kk _ hkk
              have hXs : X.heap.size = w7.heap.size := by rw [hX]; simp
              have hXW : Wrote (fun bb => bb = w1.heap.size ∨ u'.ownBlock = some bb) C X := by
                refine ⟨?_, ?_, ?_, by omega, fun kk hkk hn => (hXo kk (fun e3 => hn (.inl e3))).trans (hgr kk hkk (fun e3 => hn (.inr e3)))⟩
                · rw [hX]; exact (hgrow4.os).trans E.h.os
                · rw [hX]; exact (hgrow4.tape).trans E.h.tape
                · rw [hX]; exact (hgrow4.output).trans E.h.output
              have hnc : ∀ (kk : Nat) (o : Obj), C.heap[kk]? = some o → o.isCells = false → X.heap[kk]? = some o := fun kk o ho hoc => by
                refine (hXW.block kk (lt_of_block ho) (fun hs => ?_)).trans ho
                rcases hs with rfl | hs
                · rw [show C.heap[w1.heap.size]? = _ from HBU2.out] at ho
                  cases ho
                  cases hoc
                · rcases HHU2.out.2 with ⟨rfl, _⟩ | ⟨g, cap, cur, rfl, _, hh2, _⟩
                  · cases hs
                  · have e3 : g = kk := Option.some.inj hs
                    subst e3
                    rw [hh2] at ho
                    cases ho
                    cases hoc
              have HFIN : Hid (KeepsFrom w5.heap.size C X ∧ Kep w.heap.size (fun bb => bb = w1.heap.size ∨ u.ownBlock = some bb ∨ w5.heap.size + 4 ≤ bb) C X ∧ (∃ u' R', Boxed X w1.heap.size 25 u' ∧ OwnZ X V2.heap.size u' R' ∧ (∀ bb, u'.ownBlock = some bb → u.ownBlock = some bb ∨ w5.heap.size + 4 ≤ bb) ∧ RIn es s e a i (pre ++ [(q : Int)]) R') ∧ Wrote (fun b => b = w1.heap.size) V2 X ∧ Kep w.heap.size (fun bb => bb = w1.heap.size ∨ u.ownBlock = some bb ∨ w5.heap.size + 4 ≤ bb) w5 X ∧ Marks V2.heap.size X Ds) := by
                have hkp : Kep w.heap.size (fun bb => bb = w1.heap.size ∨ u.ownBlock = some bb ∨ w5.heap.size + 4 ≤ bb) C X := by
                  refine wrote_kep (hXW.mono fun kk _ hs => ?_) hbC.size (fun kk hs => ?_)
                  · rcases hs with h | h
                    · exact .inl h
                    · exact .inr (hub kk h)
                  · have := hBV.size
                    rcases hs with h | h | h
                    · omega
                    · have := (OwnZ.lt HU.out h).1
                      omega
                    · omega
                refine ⟨⟨hXW.size, fun kk o _ ho hoc => hnc kk o ho hoc⟩, hkp, ⟨.slice (some ⟨g4, 0, none⟩) (R'.length + 1) c4', _, ?_, ?_, fun bb hbb => ?_, HRN.out⟩, ?_, HKC.out.trans hkp, ⟨HMC.out.nod, fun D hD => hnc D _ (HMC.out.lie D hD) rfl, HMC.out.lo⟩⟩
                · rw [hX]
                  exact bu7.set _
                · exact ho4.same fun gg hgg _ => hXo gg (fun e3 => by have := (OwnZ.lt ho4 hgg).1; omega)
                · rcases hat4 with e3 | e3
                  · exact hub bb (e3.symm.trans hbb)
                  · right
                    have e4 := Option.some.inj (e3.symm.trans hbb)
                    omega
                · exact ⟨hXW.os.trans HWC.out.os, hXW.tape.trans HWC.out.tape, hXW.output.trans HWC.out.output, Nat.le_trans HWC.out.size hXW.size, fun kk hkk hn => (hXW.block kk (Nat.lt_of_lt_of_le hkk HWC.out.size) (fun hs => by
                    rcases hs with h | h
                    · exact hn h
                    · have := (hfar kk h).1
                      omega)).trans (HWC.out.block kk hkk hn)⟩
              have HXE := Nu.hid hX
              clear hown4 hgrow4 hat4 bu7 ho4 hX hXo hXW hnc hgr
              gi_wp2
              rw [← HXE.out]
              exact HFIN.out
            · have HNO : Hid (RIn es s e a i (pre ++ [(q : Int)]) R') := hnoR (fun hc => by rw [hht, hhf] at hc; exact c2 hc.2)
              gi_wp2
              refine wpIn_region_lw (by kernel_rfl) (by kernel_rfl) (by kernel_rfl) ?_
              repeat (go_big_quiet_step ((first | (go_at_call 44; exact Calls.lw (HBC.out _)) | (go_at_call 47; exact Calls.lw (HEN.out _)) | (go_at_call 37; exact Calls.lw (HBG.out _)))))
              refine wpQuiet_nil ?_
              rintro _ ⟨E, rfl⟩
              clear cw1 ch1 hne HBG HEN HBC
              gi_wp2
              exact ⟨kf_below E.h, (Kep.refl _ _ _).grow E.h hbC.size, ⟨u', R', (E.h.block _ HBU2.out.lt).trans HBU2.out, HHU2.out.later E.h, hub, HNO.out⟩, HWC.out.later E.h, HKC.out.grow E.h hbC.size, ⟨HMC.out.nod, fun D hD => (E.h.block D (lt_of_block (HMC.out.lie D hD))).trans (HMC.out.lie D hD), HMC.out.lo⟩⟩
        case done =>
          rintro D X hD ⟨⟨u', R', bu', hu', hub, hR'⟩, hwX, hkX, hmX⟩ hK
          have HST : Hid (RState es s e a V2 w1.heap.size (i + 1) X (D :: Ds)) := by
            refine ⟨⟨List.nodup_cons.2 ⟨fun hin => by have := hDs D hin; omega, hmX.nod⟩, fun D' hD' => ?_, fun D' hD' => ?_⟩, hwX, u', R', bu', hu', hR'.1, fun y => ?_⟩
            · rcases List.mem_cons.1 hD' with rfl | h
              · exact hK
              · exact hmX.lie D' h
            · rcases List.mem_cons.1 hD' with rfl | h
              · omega
              · exact hmX.lo D' h
            · rw [hR'.2 y]
              constructor
              · rintro ⟨k', h1, h2, h3, h4 | h4⟩
                · obtain ⟨j, hj, ej⟩ := h4
                  exact ⟨k', h1, h2, h3, .inl ⟨j, by omega, ej⟩⟩
                · obtain ⟨k2, g1, g2, g3⟩ := (Lo.mem_frL HD.out.vf hxn).1 h4
                  have e1 := (Lo.oh_of HD.out.vf h1).2.2.2
                  have e2 := (Lo.oh_of HD.out.vf g1).2.2.2
                  have e3 : k' = k2 := by omega
                  subst e3
                  exact ⟨k', h1, h2, h3, .inl ⟨i, by omega, by rw [HX.out, g2]⟩⟩
              · rintro ⟨k', h1, h2, h3, h4 | h4⟩
                · obtain ⟨j, hj, ej⟩ := h4
                  by_cases hji : j = i
                  · subst hji
                    exact ⟨k', h1, h2, h3, .inr ((Lo.mem_frL HD.out.vf hxn).2 ⟨k', h1, by rw [← ej, HX.out], rfl⟩)⟩
                  · exact ⟨k', h1, h2, h3, .inl ⟨j, by omega, ej⟩⟩
                · simp at h4
          clear bu' hu' hub hR' hwX hkX hmX hK
          go_wp2
          refine ⟨⟨i + 1, _, _, _, _, _, _, _, _, D :: Ds, by omega, rfl, HST.out⟩, ?_⟩
          show k - (intOf (.int .i64 ((i : Int) + 1))).toNat < k - (intOf (.int .i64 (i : Int))).toNat
          simp [intOf]
          omega
        case stop =>
          rintro D c' pre X _ _ hx _
          exact hx.elim
      · have hd : ¬ ((i : Int) < (k : Int)) := by omega
        have hie : i = k := by omega
        have HSO := Nu.hid (isort_any V2.heap.size u R wr hu (by omega))
        have HU := Nu.hid hu
        have HMK := Nu.hid hmk
        have HWR := Nu.hid hwr
        have HBU := Nu.hid bu
        have HRR := Nu.hid hR
        have hlB : w1.heap.size < V2.heap.size := by omega
        have hcu : ∀ V, wr.grownBy V u.ownBlock → V.cell? ⟨w1.heap.size, 0, none⟩ = some u := fun V hg => Boxed.cell ((hg.block _ bu.lt (fun e => by have := (OwnZ.lt hu e.symm).1; omega)).trans bu)
        clear hu hmk hwr bu hR hie
        go_wp2_with (go_at_call 48; refine HSO.out.mono ?_; rintro r w6 ⟨rfl, ho6, hg6⟩; have cu6 := hcu _ hg6; clear hcu)
        have hm6 : Marks V2.heap.size w6 Ds := ⟨HMK.out.nod, fun D hD => (hg6.block D (lt_of_block (HMK.out.lie D hD)) (fun e => by
          have := HMK.out.lie D hD
          rcases HU.out.2 with ⟨rfl, _⟩ | ⟨g, cap, cur, rfl, _, hh, _⟩
          · cases e
          · have e : D = g := Option.some.inj e
            subst e
            rw [hh] at this
            cases this)).trans (HMK.out.lie D hD), HMK.out.lo⟩
        have hb6 : Below w.heap.size w w6 := by
          have h1 : Below w.heap.size w wr := hBV.trans (HWR.out.below hBV.size (fun b hb => by omega))
          exact h1.grown hg6 h1.size (fun b hb => by have := (OwnZ.lt HU.out hb).1; have := hBV.size; omega)
        refine marks_leave Ds w6 hm6 fun w7 h1 h2 h3 => ?_
        refine ⟨_, results_tmp rfl _ _ _, u, rfl, ?_, hb6.trans (h1.mono hBV.size)⟩
        have hso : R.mergeSort (fun x y => decide (x ≤ y)) = zs (Lo.rets es s e) := by
          refine Lo.sort_is HRR.out.1 (Lo.rets_rise es s e) fun y => ?_
          have hgo : Lo.go_ es s e = t := by unfold Lo.go_; rw [hhe]; exact ht
          rw [HRR.out.2 y]
          constructor
          · rintro ⟨k', hk', rfl, hcond, hj | hj⟩
            · obtain ⟨j, hj, ej⟩ := hj
              refine ⟨k', (Lo.mem_rets_tree HTE.out).2 ⟨hk', hcond.1, hcond.2, ?_⟩, rfl⟩
              rw [hgo]
              exact (HBEL.out _ (Lo.ends_lt HD.out.val HD.out.vf hk').1).2 ⟨j, by omega, ej⟩
            · simp at hj
          · rintro ⟨k', hk', rfl⟩
            obtain ⟨h1, h2, h3, h4⟩ := (Lo.mem_rets_tree HTE.out).1 hk'
            rw [hgo] at h4
            obtain ⟨j, hj, ej⟩ := (HBEL.out _ (Lo.ends_lt HD.out.val HD.out.vf h1).1).1 h4
            exact ⟨k', h1, rfl, ⟨h2, h3⟩, .inl ⟨j, by omega, ej⟩⟩
        rw [← hso]
        have ho7 : OwnZ w7 V2.heap.size u (R.mergeSort (fun x y => decide (x ≤ y))) := by
          refine ⟨ho6.1, ?_⟩
          rcases ho6.2 with h | ⟨g, cap, cur, e1, hgB, hh, hr⟩
          · exact .inl h
          · exact .inr ⟨g, cap, cur, e1, hgB, h2 _ _ hh rfl, hr⟩
        exact ho7.lower hBV.size
  · have HR : Hid (Lo.rets es s e = [e]) := Lo.rets_back (by
      cases h : Lo.tree es s e with
      | false => rfl
      | true => exact absurd (HTR.out.1 h) hback)
    go_wp2_with (go_at_call 44; rw [← HWW.out]; refine HBK.out.mono ?_; rintro e w1 ⟨rfl, hb1⟩; clear cw ch)
    have hb2 : Below w.heap.size w w1 := HBW.out.trans (hb1.mono HBW.out.size)
    refine ⟨_, results_tmp rfl _ _ _, ?_⟩
    refine ⟨_, rfl, ?_, hb2.alloc hb2.size _⟩
    rw [HR.out]
    have h1 : (w1.alloc (.cells #[.int .i64 (e : Int)] 3)).heap[w1.heap.size]? = some (.cells #[.int .i64 (e : Int)] 3 (0, 0)) := heap_alloc_new w1 _
    exact ⟨rfl, .inr ⟨w1.heap.size, 1, #[.int .i64 (e : Int)], rfl, hb2.size, h1, Nat.le_refl 1, by unfold maxLen; omega, rfl, rfl⟩⟩
end

end Go.Proofs.YtmgoahbloppdmaaGreat
