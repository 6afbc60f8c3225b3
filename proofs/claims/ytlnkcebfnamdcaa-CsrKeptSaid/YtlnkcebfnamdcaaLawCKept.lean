/-
  Proved: for every graph and every two numbers the law CsrKept answers true, and the graph reads afterwards as before. No condition.
-/
import Derived.Test.YtlnkcebfnamdcaaCsAwake
import Derived.Test.YtlnkcebfnamdcaaCsRow
import Derived.Test.YtlnkcebfnamdcaaCsRV
import Derived.Test.YtlnkcebfnamdcaaSiGin
import Derived.Deep.RegionHeld3
namespace Go.Proofs.Ytlnkcebfnamdcaa
open Go.ChangeShapes Go.WideShapes Go.ChangeAt Go.RowKit
namespace lawKept

theorem ownz_form {w : World} {B : Nat} {v : Value} {l : List Int} (h : OwnZ w B v l) : ∃ ao cap, v = .slice ao l.length cap := by
  rcases h.2 with ⟨rfl, h0⟩ | ⟨g, cap, cur, rfl, _⟩
  · exact ⟨none, 0, by rw [h0]⟩
  · exact ⟨_, _, rfl⟩

theorem nil_out (x : Int) : Cs.outI 0 [] x = [] := Cs.outI_no (by omega)
theorem nil_outZ (x : Int) : Cs.outZ 0 [] x = [] := by unfold Cs.outZ; rw [nil_out]; rfl

/-- The box of a graph. -/
def GBox (w : World) (b : Nat) (n : Int) (ao : Option Addr) (len cap : Nat) : Prop := w.heap[b]? = some (.cells #[.int .i64 n, .slice ao len cap] 24 (0, 0))

set_option maxRecDepth 100000 in
set_option maxHeartbeats 16000000 in
theorem walk (n : Int) (ao : Option Addr) (ca : Nat) (es : List (Int × Int)) (x y : Int) (w : World) (_ : -9223372036854775808 ≤ n ∧ n ≤ 9223372036854775807) (hq : PairsIn w ao es.length ca es) (hle : es.length * 16 ≤ 140737488351232)
    (_ : (Lit.int .i64 x).wf = true) (_ : (Lit.int .i64 y).wf = true) :
    Calls Try.prog 6 #[.agg #[.int .i64 n, .slice ao es.length ca], .int .i64 x, .int .i64 y] w fun e w' => e = .returned (.bool true) ∧ Below w.heap.size w w' := by
  obtain ⟨i0, hi, hz0, hz1, hz2⟩ := info_parts Try.infoEdge
  have HQ := Nu.hid hq
  have hcopy := fun W (hb : Below w.heap.size w W) => r4copy_any n ao ca es W (hq.hat.later hb) (fun h => (hq.hnil h).2) (by omega)
  have hvalid := fun W (hb : Below w.heap.size w W) => r4valid_any n ao ca es W (hq.hat.later hb) (by omega)
  unfold graphVal at hcopy hvalid
  have HCOPY := Nu.hid hcopy
  have HVALID := Nu.hid hvalid
  clear hq hcopy hvalid
  have hb0 : Below w.heap.size w (w.alloc (.cells #[.int .i64 n, .slice ao es.length ca] 24)) := (Below.refl _ _).alloc (Nat.le_refl _) _
  have HB0 := Nu.hid hb0
  clear hb0
  go_enter Try.func6, Try.ntmps6
  -- the fixed fact
  go_wp2_with (go_at_call 7; refine (awake_any _).mono ?_; rintro e w1 ⟨rfl, hb⟩; refine Hid.out ?_)
  refine Nu.hid ?_
  have hG : w1.heap[w.heap.size]? = some (.cells #[.int .i64 n, .slice ao es.length ca] 24 (0, 0)) := (hb.block _ (by simp)).trans (heap_alloc_new w _)
  have HB1 := Nu.hid (HB0.out.trans (hb.mono HB0.out.size))
  have HG1 := Nu.hid hG
  obtain ⟨x0, x1, -⟩ := pair_cells hG
  have hs1 := lt_of_block hG
  clear hb hG
  -- the copy
  go_wp2_with (go_at_call 24; refine (HCOPY.out _ HB1.out).mono ?_; rintro e w2 ⟨gb, c, rfl, how, hb⟩; refine Hid.out ?_)
  refine Nu.hid ?_
  have HB2 := Nu.hid (HB1.out.trans (hb.mono HB1.out.size))
  have HG2 := Nu.hid ((hb.block _ hs1).trans HG1.out)
  have hs2 : w1.heap.size ≤ w2.heap.size := hb.size
  have HO2 := Nu.hid how
  clear x0 x1 hb how HG1
  obtain ⟨x0, x1, -⟩ := pair_cells HG2.out
  -- one edge more
  go_wp2_with (at_builtin; refine wpList_append_own _ rfl _ _ 22 rfl w1.heap.size 44 i0 (.agg #[.int .i64 0, .int .i64 0]) 2 16 Try.underlying22 hi hz0 hz1 hz2 rfl (by decide) _ _ _ rfl ((HO2.out.alloc _).alloc _) ⟨w2.heap.size + 1, 0, none⟩ 1 1 [.int .i64 (-5), .int .i64 (-6)] rfl rfl (new_two_e _ _ (by simp) _ _ _) (by simp [Value.oneCell']) (by unfold maxLen; omega) (by omega) (by simp; omega) ?_; refine Hid.out ?_)
  refine Nu.hid ?_
  intro v' w3 hrow3 hg3 _
  obtain ⟨g2, c2, rfl⟩ := ownsRow_succ hrow3
  have hgl := World.ownsRow.lt HO2.out gb rfl
  have h3 : w3.heap[w2.heap.size]? = some (.cells #[.int .i64 n, .slice (some ⟨gb, 0, none⟩) es.length c] 24 (0, 0)) := by
    rw [hg3.block w2.heap.size (by simp; omega) (by simp [Value.ownBlock]; omega), Below.heap_alloc _ _ _ (by simp)]
    exact heap_alloc_new w2 _
  have g3 : w3.heap[w.heap.size]? = some (.cells #[.int .i64 n, .slice ao es.length ca] 24 (0, 0)) := by
    rw [hg3.block w.heap.size (by simp; omega) (by simp [Value.ownBlock]; omega), Below.heap_alloc _ _ _ (by simp; omega), Below.heap_alloc _ _ _ (by omega)]
    exact HG2.out
  have hb3 : Below w.heap.size w w3 := ((HB2.out.alloc HB2.out.size _).alloc (by simp; omega) _).grown hg3 (by simp; omega) (fun k hk => by simp [Value.ownBlock] at hk; omega)
  have ho3 : OwnE w3 w1.heap.size (.slice (some ⟨g2, 0, none⟩) (es.length + 1) c2) (es ++ [(-5, -6)]) := by
    unfold OwnE
    rw [flatE_snoc, List.length_append]
    exact hrow3
  have hne : g2 ≠ w2.heap.size := fun e => by
    obtain ⟨_, _, _, cur, hh⟩ := own_block ho3
    rw [e, h3] at hh
    injection hh with hh
    injection hh with _ hh
    revert hh
    decide
  have hg2l := World.ownsRow.lt ho3 g2 rfl
  obtain ⟨y0, y1, yf⟩ := pair_cells h3
  obtain ⟨W4, hW4⟩ : ∃ W4, W4 = w3.setCell ⟨w2.heap.size, 1, none⟩ (.slice (some ⟨g2, 0, none⟩) (es.length + 1) c2) := ⟨_, rfl⟩
  have h4 : W4.heap[w2.heap.size]? = some (.cells #[.int .i64 n, .slice (some ⟨g2, 0, none⟩) (es.length + 1) c2] 24 (0, 0)) := by
    rw [hW4, heap_setCell_same w3 w2.heap.size 1 _ _ _ h3]
    simp
  have g4 : W4.heap[w.heap.size]? = some (.cells #[.int .i64 n, .slice ao es.length ca] 24 (0, 0)) := by
    rw [hW4, heap_setCell_other w3 ⟨w2.heap.size, 1, none⟩ w.heap.size _ (by show w.heap.size ≠ w2.heap.size; omega)]
    exact g3
  have hb4 : Below w.heap.size w W4 := by
    rw [hW4]
    exact hb3.setCell (p := ⟨w2.heap.size, 1, none⟩) (by show w.heap.size ≤ w2.heap.size; omega) _
  have ho4 : OwnE W4 w1.heap.size (.slice (some ⟨g2, 0, none⟩) (es.length + 1) c2) (es ++ [(-5, -6)]) := own_same ho3 fun g hg => by
    obtain rfl : g2 = g := by simpa [Value.ownBlock] using hg
    rw [hW4, heap_setCell_other w3 ⟨w2.heap.size, 1, none⟩ g2 _ hne]
  have hsz4 : W4.heap.size = w3.heap.size := by rw [hW4]; simp
  have HO4 := Nu.hid ho4
  have H4 := Nu.hid h4
  have G4 := Nu.hid g4
  have HB4 := Nu.hid hb4
  have HW4 := Nu.hid hW4
  clear hrow3 hg3 h3 g3 hb3 ho3 h4 g4 hb4 ho4 hW4 HO2 HG2 x0 x1
  go_wp2_with fail
  rw [← HW4.out]
  clear HW4 y0 y1 yf
  have hs4 : w2.heap.size < W4.heap.size := lt_of_block H4.out
  have hcut := own_first HO4.out
  have hnew : ∀ W, Below W4.heap.size W4 W → Calls Try.prog 25 #[.agg #[.int .i64 n, .slice (some ⟨g2, 0, none⟩) es.length c2]] W fun e w' => ∃ q z, e = .returned (.tuple #[.pointer q, .int .i64 z]) ∧ NewQ n es W4.heap.size w' q ∧ Below W.heap.size W w' := fun W hb => by
    refine (cnew_q (n := n) (cap := c2) (hcut.1.later hb) (by omega)).mono ?_
    rintro e w' ⟨q, z, he, ⟨hq, _⟩, hb'⟩
    refine ⟨q, z, he, ?_, hb'⟩
    rcases hq with ⟨m, p, h1, h2, h3, h4⟩ | h
    · exact .inl ⟨m, p, h1, h2, h3, h4.lower hb.size⟩
    · exact .inr h
  have hS : ∀ W, Below W4.heap.size W4 W → (W.cell? ⟨w.heap.size, 0, none⟩ = some (.int .i64 n) ∧ W.cell? ⟨w.heap.size, 1, none⟩ = some (.slice ao es.length ca) ∧ W.cell? ⟨w2.heap.size, 1, none⟩ = some (.slice (some ⟨g2, 0, none⟩) (es.length + 1) c2) ∧ Below W4.heap.size W4 W) := fun W hb => by
    obtain ⟨a0, a1, -⟩ := pair_cells G4.out
    obtain ⟨b0, b1, -⟩ := pair_cells H4.out
    exact ⟨(hb.cell (p := ⟨w.heap.size, 0, none⟩) (by show w.heap.size < _; omega)).trans a0, (hb.cell (p := ⟨w.heap.size, 1, none⟩) (by show w.heap.size < _; omega)).trans a1, (hb.cell (p := ⟨w2.heap.size, 1, none⟩) hs4).trans b1, hb⟩
  have HS := Nu.hid hS
  have HNEW := Nu.hid hnew
  have hbr : Below W4.heap.size W4 W4.drew := (Below.refl _ _).drew
  have i1 : (0 : Int) ≤ (es.length : Int) := by omega
  have i2 : (es.length : Int) ≤ (es.length : Int) + 1 := by omega
  have i3 : (es.length : Int) ≤ (c2 : Int) := by
    have := own_block HO4.out
    simp at this
    omega
  clear hcut hnew hS
  go_region_held3 (fun W => W.cell? ⟨w.heap.size, 0, none⟩ = some (.int .i64 n) ∧ W.cell? ⟨w.heap.size, 1, none⟩ = some (.slice ao es.length ca) ∧ W.cell? ⟨w2.heap.size, 1, none⟩ = some (.slice (some ⟨g2, 0, none⟩) (es.length + 1) c2) ∧ Below W4.heap.size W4 W)
    (exact HS.out _ (by first | assumption | exact hbr))
    ((go_at_call 25; refine (HNEW.out _ (by first | assumption | exact hbr)).mono ?_; rintro e w5 ⟨q, z, rfl, hq, hbs⟩; have hbz : Below W4.heap.size W4 w5 := Below.trans (by first | assumption | exact hbr) (hbs.mono (Below.size (by first | assumption | exact hbr)))))
  have HNQ := Nu.hid hq
  have HB5 := Nu.hid hbz
  have hsz5 := hbz.size
  clear hq hbz hbs HNEW HS
  -- the graph is as it was
  have hsame : ∀ W, Below w5.heap.size w5 W → Calls Try.prog 26 #[.agg #[.int .i64 n, .slice (some ⟨g2, 0, none⟩) es.length c2], .agg #[.int .i64 n, .slice ao es.length ca]] W fun e w' => e = .returned (.bool true) ∧ Below W.heap.size W w' := fun W hb => by
    have hb' : Below W4.heap.size W4 W := HB5.out.trans (hb.mono hsz5)
    have := r4same_any n (some ⟨g2, 0, none⟩) ao c2 ca es W ((own_first HO4.out).1.later hb') (HQ.out.hat.later (HB4.out.trans (hb'.mono HB4.out.size))) (by omega)
    unfold graphVal at this
    exact this
  have HSAME := Nu.hid hsame
  have hS : ∀ W, Below w5.heap.size w5 W → (W.cell? ⟨w.heap.size, 0, none⟩ = some (.int .i64 n) ∧ W.cell? ⟨w.heap.size, 1, none⟩ = some (.slice ao es.length ca) ∧ W.cell? ⟨w2.heap.size, 1, none⟩ = some (.slice (some ⟨g2, 0, none⟩) (es.length + 1) c2) ∧ W.cell? ⟨g2, es.length * 2, none⟩ = some (.int .i64 (-5)) ∧ W.cell? ⟨g2, es.length * 2 + 1, none⟩ = some (.int .i64 (-6)) ∧ Below w5.heap.size w5 W) := fun W hb => by
    have hb' : Below W4.heap.size W4 W := HB5.out.trans (hb.mono hsz5)
    obtain ⟨a0, a1, -⟩ := pair_cells G4.out
    obtain ⟨b0, b1, -⟩ := pair_cells H4.out
    obtain ⟨_, e0, e1⟩ := own_first HO4.out
    exact ⟨(hb'.cell (p := ⟨w.heap.size, 0, none⟩) (by show w.heap.size < _; omega)).trans a0, (hb'.cell (p := ⟨w.heap.size, 1, none⟩) (by show w.heap.size < _; omega)).trans a1, (hb'.cell (p := ⟨w2.heap.size, 1, none⟩) hs4).trans b1, (hb'.cell (p := ⟨g2, es.length * 2, none⟩) (by show g2 < _; omega)).trans e0, (hb'.cell (p := ⟨g2, es.length * 2 + 1, none⟩) (by show g2 < _; omega)).trans e1, hb⟩
  have HS := Nu.hid hS
  have hbr5 : Below w5.heap.size w5 w5.drew := (Below.refl _ _).drew
  have eqP := eqEdge
  have t1 : ((-5 : Int) == -5 && (-6 : Int) == -6) = true := rfl
  have i5 : (es.length : Int) < (es.length : Int) + 1 := by omega
  clear hsame hS
  go_wp2_with fail
  go_region_held3 (fun W => W.cell? ⟨w.heap.size, 0, none⟩ = some (.int .i64 n) ∧ W.cell? ⟨w.heap.size, 1, none⟩ = some (.slice ao es.length ca) ∧ W.cell? ⟨w2.heap.size, 1, none⟩ = some (.slice (some ⟨g2, 0, none⟩) (es.length + 1) c2) ∧ W.cell? ⟨g2, es.length * 2, none⟩ = some (.int .i64 (-5)) ∧ W.cell? ⟨g2, es.length * 2 + 1, none⟩ = some (.int .i64 (-6)) ∧ Below w5.heap.size w5 W)
    (exact HS.out _ (by first | assumption | exact hbr5))
    ((go_at_call 26; refine (HSAME.out _ (by first | assumption | exact hbr5)).mono ?_; rintro e w6 ⟨rfl, hbs⟩; have hbz : Below w5.heap.size w5 w6 := Below.trans (by first | assumption | exact hbr5) (hbs.mono (Below.size (by first | assumption | exact hbr5)))))
  have hb6 : Below W4.heap.size W4 w6 := HB5.out.trans (hbz.mono hsz5)
  have hsz6 := hb6.size
  have HNQ6 := Nu.hid (HNQ.out.later hbz)
  have G6 := Nu.hid ((hb6.block _ (by omega)).trans G4.out)
  have H6 := Nu.hid ((hb6.block _ hs4).trans H4.out)
  have HO6 := Nu.hid (HO4.out.below hb6 (Nat.le_refl _))
  have HB6 := Nu.hid (HB4.out.trans (hb6.mono HB4.out.size))
  clear hbz hbs hb6 eqP t1 HSAME HS HNQ HB5 G4 H4 HO4 hbr hbr5
  obtain ⟨y0, y1, -⟩ := pair_cells H6.out
  go_wp2
  clear y0 y1
  go_loopw [66] (fun cv wr => ∃ (k : Nat) (fs : List (Int × Int)), k ≤ es.length + 1 ∧ cv = .int .i64 k ∧ fs.length = es.length + 1 ∧ OwnE wr w1.heap.size (.slice (some ⟨g2, 0, none⟩) (es.length + 1) c2) fs ∧ Wrote (fun b => b = g2) w6 wr) (fun cv _ => es.length + 1 - (intOf cv).toNat)
  case atStart => exact ⟨0, _, Nat.zero_le _, rfl, by simp, HO6.out, Wrote.refl _ _⟩
  case round =>
    obtain ⟨k, fs, hk, rfl, hfl, hrow, hwr⟩ := hrel
    have HROW := Nu.hid hrow
    have HWR := Nu.hid hwr
    have HFL := Nu.hid hfl
    have h7 := (hwr.block w2.heap.size (by omega) (by omega)).trans H6.out
    obtain ⟨y0, y1, -⟩ := pair_cells h7
    by_cases hlt : k < es.length + 1
    · have hlti : (k : Int) < (es.length : Int) + 1 := by omega
      have hk0 : (0 : Int) ≤ (k : Int) := by omega
      have her : ER wr w1.heap.size g2 0 (es.length + 1) c2 (flatE fs) := ⟨rfl, by rw [← hfl]; rw [← hfl] at hrow; exact hrow⟩
      obtain ⟨R2, hg2, ⟨u1, e1⟩, ⟨u2, e2⟩, f1, f2⟩ := her.pair (j := k) (by omega) (7, 7)
      dsimp only at R2 hg2 e2 f2
      simp only [Nat.zero_add] at R2 hg2 e1 e2 f1 f2
      have HR2 := Nu.hid (R2.own (by rw [List.length_set]; exact hfl))
      have HW2 := Nu.hid ((hwr.setCell (b := g2) (i := k * 2) rfl (.int .i64 7)).setCell (b := g2) (i := k * 2 + 1) rfl (.int .i64 7))
      clear R2 hg2 her hrow hwr hfl h7
      go_wp2
      go_roundw
      case rel => exact ⟨k + 1, _, by omega, by go_num, by rw [List.length_set]; exact HFL.out, HR2.out, HW2.out⟩
      case measure => simp [intOf]; omega
    · have hd : ¬ ((k : Int) < (es.length : Int) + 1) := by omega
      have HB7 := Nu.hid (HB6.out.trans (hwr.below HB6.out.size (fun b hb => by omega)))
      have G7 := Nu.hid ((hwr.block w.heap.size (by omega) (by omega)).trans G6.out)
      have HNQ7 := Nu.hid (HNQ6.out.same hwr.size (fun k h1 h2 => hwr.block k h2 (by omega)))
      have hnil : IsAdj wr (.pointer none) 0 [] := .inl ⟨rfl, rfl, rfl⟩
      have hsr := hwr.size
      have hout := out_any (.pointer none) 0 [] x 0 wr hnil
      unfold OutPost at hout
      rw [nil_outZ] at hout
      have HOUT := Nu.hid hout
      clear hrow hwr hfl h7 y0 y1 hout
      go_wp2_with (go_at_call 20; refine HOUT.out.mono ?_; rintro e w8 ⟨v8, rfl, hz8, hb8⟩; obtain ⟨a8, c8, rfl⟩ := ownz_form hz8; refine Hid.out ?_)
      refine Nu.hid ?_
      have HB8 := Nu.hid (HB7.out.trans (hb8.mono HB7.out.size))
      have G8 := Nu.hid ((hb8.block w.heap.size (by omega)).trans G7.out)
      have HNQ8 := Nu.hid (HNQ7.out.later hb8)
      have hs8 := hb8.size
      have hnil8 : IsAdj w8 (.pointer none) 0 [] := .inl ⟨rfl, rfl, rfl⟩
      have hhalf : Calls Try.prog 14 #[.pointer none, .int .i64 x, .int .i64 y] w8 fun e w' => e = .returned (.tuple #[.int .i64 0, .bool false]) ∧ Below w8.heap.size w8 w' := (half_any (.pointer none) 0 [] x y w8 hnil8).mono (by
        rintro e w' ⟨⟨i, hi, _⟩ | ⟨_, h⟩, hb⟩
        · rw [nil_out] at hi; cases hi
        · exact ⟨h, hb⟩)
      have HHALF := Nu.hid hhalf
      clear hz8 hb8 hhalf HOUT HB7 G7 HNQ7 hnil hnil8
      go_wp2_with (go_at_call 14; refine HHALF.out.mono ?_; rintro e w9 ⟨rfl, hb9⟩; refine Hid.out ?_)
      refine Nu.hid ?_
      have HB9 := Nu.hid (HB8.out.trans (hb9.mono HB8.out.size))
      have G9 := Nu.hid ((hb9.block w.heap.size (by omega)).trans G8.out)
      have HNQ9 := Nu.hid (HNQ8.out.later hb9)
      have hs9 := hb9.size
      have hnil9 : ∀ W, IsAdj W (.pointer none) 0 [] := fun W => .inl ⟨rfl, rfl, rfl⟩
      have HN1 := Nu.hid fun W => aN_any (.pointer none) 0 [] W (hnil9 W)
      have HN2 := Nu.hid fun W => aM_any (.pointer none) 0 [] W (hnil9 W)
      have n3 := fun W => degree_any (.pointer none) 0 [] x W (hnil9 W)
      rw [nil_out] at n3
      have n4 := fun W => from_any (.pointer none) 0 [] x W (hnil9 W)
      rw [Cs.frI_no (by simp)] at n4
      have n5 := fun W => to_any (.pointer none) 0 [] y W (hnil9 W)
      rw [Cs.toI_no (by simp)] at n5
      have n6 := fun W => first_any (.pointer none) 0 [] x W (hnil9 W)
      unfold Cs.firstI at n6
      rw [nil_outZ] at n6
      have n7 := fun W => after_any (.pointer none) 0 [] y W (hnil9 W)
      rw [Cs.afterI_no (by simp)] at n7
      have HN3 := Nu.hid n3
      have HN4 := Nu.hid n4
      have HN5 := Nu.hid n5
      have HN6 := Nu.hid n6
      have HN7 := Nu.hid n7
      clear hb9 HHALF HB8 G8 HNQ8 n3 n4 n5 n6 n7 hnil9
      go_wp2_with (first
        | (go_at_call 10; refine (HN1.out _).mono ?_; rintro e wn ⟨rfl, rfl⟩)
        | (go_at_call 11; refine (HN2.out _).mono ?_; rintro e wn ⟨rfl, rfl⟩)
        | (go_at_call 21; refine (HN3.out _).mono ?_; rintro e wn ⟨rfl, rfl⟩)
        | (go_at_call 16; refine (HN4.out _).mono ?_; rintro e wn ⟨rfl, rfl⟩)
        | (go_at_call 17; refine (HN5.out _).mono ?_; rintro e wn ⟨rfl, rfl⟩)
        | (go_at_call 22; refine (HN6.out _).mono ?_; rintro e w10 ⟨rfl, k10, hw10⟩)
        | (go_at_call 18; refine (HN7.out _).mono ?_; rintro e w11 ⟨rfl, k11, hw11⟩; refine Hid.out ?_))
      refine Nu.hid ?_
      obtain ⟨W, hW⟩ : ∃ W, W = wn.drewN (k10 + k11) := ⟨_, rfl⟩
      rw [← hW]
      have HBW : Hid (Below w.heap.size w W) := by rw [hW]; exact below_drewN HB9.out _
      have GW : Hid (W.heap[w.heap.size]? = some (.cells #[.int .i64 n, .slice ao es.length ca] 24 (0, 0))) := by rw [hW]; exact G9.out
      have HNQW : Hid (NewQ n es W4.heap.size W q) := by rw [hW]; exact HNQ9.out.same (w' := wn.drewN (k10 + k11)) (Nat.le_refl _) (fun k _ _ => rfl)
      have hsW : wn.heap.size = W.heap.size := by rw [hW]; rfl
      clear hW HN1 HN2 HN3 HN4 HN5 HN6 HN7 HB9 G9 HNQ9
      obtain ⟨x0, x1, -⟩ := pair_cells GW.out
      rcases HNQW.out with ⟨m, p, hnm, hval, rfl, hadj⟩ | ⟨hv, rfl⟩
      · subst hnm
        have hfew := hval.few
        have HVAL := Nu.hid hval
        have HADJ := Nu.hid hadj
        clear hval hadj HNQW HVALID HCOPY
        go_wp2
        clear x0 x1
        go_loopw [16] (fun cv wr => ∃ k : Nat, k ≤ es.length ∧ cv = .int .i64 k ∧ Below W.heap.size W wr) (fun cv _ => es.length - (intOf cv).toNat)
        case atStart => exact ⟨0, Nat.zero_le _, rfl, Below.refl _ _⟩
        case round =>
          obtain ⟨k, hk, rfl, hbr⟩ := hrel
          have hgr := (hbr.block w.heap.size (by omega)).trans GW.out
          obtain ⟨x0, x1, -⟩ := pair_cells hgr
          have hszr := hbr.size
          have HBR := Nu.hid hbr
          have hadj : ∀ V, Below wr.heap.size wr V → IsAdj V (.pointer (some ⟨p, 0, none⟩)) m es := fun V hb => .inr ⟨_, p, rfl, HVAL.out, HADJ.out.later (hbr.trans (hb.mono hszr))⟩
          have hbd : Below wr.heap.size wr wr.drew := (Below.refl _ _).drew
          by_cases hlt : k < es.length
          · have hlti : (k : Int) < (es.length : Int) := by omega
            have hk0 : (0 : Int) ≤ (k : Int) := by omega
            obtain ⟨e, he⟩ : ∃ e, es[k]? = some e := ⟨_, List.getElem?_eq_getElem hlt⟩
            have hok := HVAL.out.each k e he
            unfold Si.ok at hok
            obtain ⟨b, o, rfl, c0, c1⟩ := (HQ.out.hat.later (HBW.out.trans (hbr.mono HBW.out.size))) k e he
            have hbl := block_lt_of_cell c0
            obtain ⟨f1, f2⟩ := Cs.fr_even he
            have hfr : ∀ V, Below wr.heap.size wr V → Calls Try.prog 16 #[.pointer (some ⟨p, 0, none⟩), .int .i64 (2 * (k : Int))] V fun r V' => r = .returned (.int .i64 e.1) ∧ Below V.heap.size V V' := fun V hb => by
              have := from_any _ _ _ ((2 * k : Nat) : Int) V (hadj V hb)
              rw [Cs.frI_in (by omega), f1, show ((e.1.toNat : Nat) : Int) = e.1 by omega, show ((2 * k : Nat) : Int) = 2 * (k : Int) by omega] at this
              exact this.mono (fun r V' h => ⟨h.1, by rw [h.2]; exact Below.refl _ _⟩)
            have hto : ∀ V, Below wr.heap.size wr V → Calls Try.prog 17 #[.pointer (some ⟨p, 0, none⟩), .int .i64 (2 * (k : Int))] V fun r V' => r = .returned (.int .i64 e.2) ∧ Below V.heap.size V V' := fun V hb => by
              have := to_any _ _ _ ((2 * k : Nat) : Int) V (hadj V hb)
              rw [Cs.toI_in (by omega), f2, show ((e.2.toNat : Nat) : Int) = e.2 by omega, show ((2 * k : Nat) : Int) = 2 * (k : Int) by omega] at this
              exact this.mono (fun r V' h => ⟨h.1, by rw [h.2]; exact Below.refl _ _⟩)
            have HFR := Nu.hid hfr
            have HTO := Nu.hid hto
            have hS : ∀ V, Below wr.heap.size wr V → (V.cell? ⟨w.heap.size, 1, none⟩ = some (.slice (some ⟨b, o, none⟩) es.length ca) ∧ V.cell? ⟨b, o + k * 2, none⟩ = some (.int .i64 e.1) ∧ V.cell? ⟨b, o + k * 2 + 1, none⟩ = some (.int .i64 e.2) ∧ Below wr.heap.size wr V) := fun V hb =>
              ⟨(hb.cell (p := ⟨w.heap.size, 1, none⟩) (lt_of_block hgr)).trans x1, (hb.cell (p := ⟨b, o + k * 2, none⟩) hbl).trans c0, (hb.cell (p := ⟨b, o + k * 2 + 1, none⟩) hbl).trans c1, hb⟩
            have HS := Nu.hid hS
            have hkw : IntKind.i64.wrap (2 * (k : Int)) = 2 * (k : Int) := by rw [IntKind.wrap_i64]; omega
            have t1 : (e.1 != e.1) = false := by simp
            have t2 : (e.2 != e.2) = false := by simp
            clear hfr hto hS hadj hbr he hok hgr
            go_wp2_with fail
            go_region_held3 (fun V => V.cell? ⟨w.heap.size, 1, none⟩ = some (.slice (some ⟨b, o, none⟩) es.length ca) ∧ V.cell? ⟨b, o + k * 2, none⟩ = some (.int .i64 e.1) ∧ V.cell? ⟨b, o + k * 2 + 1, none⟩ = some (.int .i64 e.2) ∧ Below wr.heap.size wr V)
              (exact HS.out _ (by first | assumption | exact hbd))
              ((first
                | (go_at_call 16; refine (HFR.out _ (by first | assumption | exact hbd)).mono ?_; rintro r V1 ⟨rfl, hv1⟩; have hb1 : Below wr.heap.size wr V1 := Below.trans (by first | assumption | exact hbd) (hv1.mono (Below.size (by first | assumption | exact hbd))))
                | (go_at_call 17; refine (HTO.out _ (by first | assumption | exact hbd)).mono ?_; rintro r V2 ⟨rfl, hv2⟩; have hb2 : Below wr.heap.size wr V2 := Below.trans (by first | assumption | exact hbd) (hv2.mono (Below.size (by first | assumption | exact hbd))))))
            all_goals
              go_wp2
              go_roundw
              case rel => exact ⟨k + 1, by omega, by go_num, HBR.out.trans (hb2.mono HBR.out.size)⟩
              case measure => simp [intOf]; omega
          · have hd : ¬ ((k : Int) < (es.length : Int)) := by omega
            obtain rfl : k = es.length := by omega
            have hm : ∀ V, Below wr.heap.size wr V → Calls Try.prog 11 #[.pointer (some ⟨p, 0, none⟩)] V fun r V' => r = .returned (.int .i64 (es.length : Int)) ∧ Below V.heap.size V V' := fun V hb => (aM_any _ _ _ V (hadj V hb)).mono (fun r V' h => ⟨h.1, by rw [h.2]; exact Below.refl _ _⟩)
            have HMM := Nu.hid hm
            have hS : ∀ V, Below wr.heap.size wr V → (V.cell? ⟨w.heap.size, 1, none⟩ = some (.slice ao es.length ca) ∧ Below wr.heap.size wr V) := fun V hb => ⟨(hb.cell (p := ⟨w.heap.size, 1, none⟩) (lt_of_block hgr)).trans x1, hb⟩
            have HS := Nu.hid hS
            have t1 : ((es.length : Int) == (es.length : Int)) = true := by simp
            have HBE := Nu.hid (HBW.out.trans (hbr.mono HBW.out.size))
            clear hm hS hadj hbr hgr
            go_wp2_with fail
            go_region_held3 (fun V => V.cell? ⟨w.heap.size, 1, none⟩ = some (.slice ao es.length ca) ∧ Below wr.heap.size wr V)
              (exact HS.out _ (by first | assumption | exact hbd))
              ((go_at_call 11; refine (HMM.out _ (by first | assumption | exact hbd)).mono ?_; rintro r V1 ⟨rfl, hv1⟩; have hb1 : Below wr.heap.size wr V1 := Below.trans (by first | assumption | exact hbd) (hv1.mono (Below.size (by first | assumption | exact hbd)))))
            all_goals
              go_wp2
              go_ret
              exact ⟨rfl, HBE.out.trans (hb1.mono HBE.out.size)⟩
      · have HV := Nu.hid hv
        have hva := HVALID.out W HBW.out
        rw [hv] at hva
        have HVA := Nu.hid hva
        clear hv hva HVALID HCOPY
        go_wp2_with (go_at_call 9; refine HVA.out.mono ?_; rintro e w12 ⟨rfl, hb12⟩)
        go_ret
        exact ⟨rfl, HBW.out.trans (hb12.mono HBW.out.size)⟩

set_option maxRecDepth 100000 in
/-- What the walk gives, for every argument and every world. -/
theorem contract (H : Type) (enc : TypeId × Value → H) (W : World) (base : Nat) (args : Array Value) (ds gs : List (DataW H)) (before : List MemPlace)
    (hval : ∀ (j : Nat) t v, Try.f6.params[j]? = some t → args[j]? = some v → Value.okWide Try.prog W .any base t v)
    (hW : DataW.Whole enc Try.prog Try.f6.params.toList Rows.csrKeptSpec.vars false W args.toList ds gs before)
    (hsz : (DataW.weightsEach Try.prog (Try.f6.params.toList ++ (OpenSpec.ofChange Rows.csrKeptSpec).bare.plain.varTypes Try.prog) (ds ++ gs)).all (· ≤ reachBytes) = true)
    :
    Calls Try.prog 6 args W fun e W' => ∃ v, e = .returned v ∧ Rows.csrKeptSpec.post enc Try.prog Try.f6 false true false false W args v W' := by
  have hW' := hW
  obtain ⟨p, q, hA0, hV, rfl, hfz, hnd⟩ := hW
  have hA : DataW.TrodAll enc Try.prog W 0 (fun _ => true) true Try.f6.params.toList args.toList ds p := hA0
  rw [Try.params6] at hA hval hsz
  obtain ⟨v0, vs0, d0, ds0, p0, q0, hargs, rfl, rfl, h0, r0⟩ := trodAll_cons hA
  obtain ⟨v1, vs1, d1, ds1, p1, q1, rfl, rfl, rfl, h1, r1⟩ := trodAll_cons r0
  obtain ⟨v2, vs2, d2, ds2, p2, q2, rfl, rfl, rfl, h2, r2⟩ := trodAll_cons r1
  obtain ⟨rfl, rfl, rfl⟩ := trodAll_nil r2
  obtain rfl : args = #[v0, v1, v2] := by cases args; simp_all
  obtain ⟨rfl, rfl⟩ := trodVars_none hV
  have k0 := h0
  have lt0 : ∀ x ∈ p0, x.block < W.heap.size := by obtain ⟨m, hm⟩ := k0; exact DataW.trod_lt m _ _ _ hm
  obtain ⟨n0, a0, cap0, q0, rfl, x0, w0, u0⟩ := graph_of_trod (j := 0) (hval 0 24 v0 rfl rfl) h0 hsz rfl rfl
  obtain ⟨a1, rfl, rfl, rfl, w1⟩ := open_int Try.underlying3 (hval 1 3 v1 rfl rfl) h1
  obtain ⟨a2, rfl, rfl, rfl, w2⟩ := open_int Try.underlying3 (hval 2 3 v2 rfl rfl) h2
  clear hA0
  refine (walk n0 a0 cap0 q0 a1 a2 W x0 w0 u0 w1 w2).mono fun e W' ⟨he, bel⟩ => ?_
  subst he
  exact ⟨_, rfl, _, _, _, [], _, [], hW', trodAll_mk1 (shut_bool Try.underlying4 _), (trodAll_cons_mk (Below.trod laidOut (by kernel_rfl) (of_decide_eq_true (by kernel_rfl)) k0 bel lt0) (trodAll_cons_mk (shut_int Try.underlying3 w1) (trodAll_cons_mk (shut_int Try.underlying3 w2) trodAll_mk0))), rfl, bel.frame _, fun h => by cases h⟩

theorem laid_met (os : Os) : laidMet Try.prog Rows.csrKeptRow.laid ((settled os).forCall (fun _ _ => 0) ⟨#[], #[.agg #[.int .i64 0, .slice none 0 0], .int .i64 0, .int .i64 0], []⟩).memory :=
  laidMet_of_run' 100 (by kernel_rfl) (by kernel_rfl)
theorem reads (os : Os) {H : Type} (enc : TypeId × Value → H) : ∃ places, DataW.whole enc Try.prog ((settled os).forCall (fun _ _ => 0) ⟨#[], #[.agg #[.int .i64 0, .slice none 0 0], .int .i64 0, .int .i64 0], []⟩).memory Try.f6.params.toList Rows.csrKeptSpec.vars false (#[.agg #[.int .i64 0, .slice none 0 0], .int .i64 0, .int .i64 0] : Array Value).toList 8 = some ([.agg [.lit (.int .i64 0), .nil], .lit (.int .i64 0), .lit (.int .i64 0)], [], places) :=
  ⟨[], by kernel_rfl⟩

set_option maxRecDepth 100000 in
theorem lifted (os : Os) (started : os.Started) (H : Type) (enc : TypeId × Value → H) (F : Stop.Interp) :
    ReturnsInHanded {} Try.checked os 6 .any ((OpenSpec.ofChange Rows.csrKeptSpec).preRow enc Try.prog Try.f6 Rows.csrKeptRow.domain false Rows.csrKeptRow.laid) (((OpenSpec.ofChange Rows.csrKeptSpec).at F).post enc Try.prog Try.f6 false true false false) := by
  obtain ⟨places, hx⟩ := reads os enc
  refine returnsInHanded_of_row (C := Try.checked) (s := (OpenSpec.ofChange Rows.csrKeptSpec)) own started (by kernel_rfl) Try.func6
    (witness_row_at (enc := enc) (C := Try.checked) false (settled os) #[.agg #[.int .i64 0, .slice none 0 0], .int .i64 0, .int .i64 0] rfl (by kernel_rfl) (by kernel_rfl) (by kernel_rfl)
      (OpenSpec.preRow_of_cond 8 hx (by kernel_rfl) (fun k hk => by cases hk) (by kernel_rfl) (laid_met os))) ?_
  intro W base args ds gs before hval hW _ _ hsz _ _ _
  exact contract H enc W base args ds gs before hval hW hsz 

theorem said : Rows.CsrKeptSaid :=
  OpenClaim.holds_of_cond 6 Try.f6 rfl rfl rfl rfl rfl rfl rfl ⟨rfl, rfl, rfl, rfl, rfl⟩ rfl rfl rfl rfl rfl (by kernel_rfl) Try.func6 (by kernel_rfl)
    (of_decide_eq_true (by kernel_rfl)) (by unfold Func.isWrapper; first | (rw [if_pos (by decide +kernel)]; kernel_rfl) | (rw [if_neg (by decide +kernel)]; exact ⟨rfl, rfl⟩))
    (fun os started H enc _ F => by rw [OpenClaim.pre_eq_preRow]; exact lifted os started H enc F)

end lawKept

theorem csrKept_holds : Rows.CsrKeptSaid := lawKept.said

#print axioms csrKept_holds
end Go.Proofs.Ytlnkcebfnamdcaa
