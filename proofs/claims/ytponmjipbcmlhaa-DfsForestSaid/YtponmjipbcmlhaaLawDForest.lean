/-
  Proved: for every graph the law DfsForest answers true, and the graph reads afterwards as before. No condition.
-/
import Derived.Test.YtponmjipbcmlhaaDfTwo
import Derived.Test.YtponmjipbcmlhaaDfAbv
import Derived.Test.YtponmjipbcmlhaaMgH
import Derived.Test.YtponmjipbcmlhaaDfCnt
import Derived.Test.YtponmjipbcmlhaaDfLaw
import Derived.Test.YtponmjipbcmlhaaDfAwake
import Derived.Deep.RegionHeld3
namespace Go.Proofs.Ytponmjipbcmlhaa
open Go.ChangeShapes Go.WideShapes Go.ChangeAt Go.RowKit
namespace lawDForest

theorem no_vf {n : Int} {es : List (Int × Int)} {s : Df.St} (h : Si.valid n es = false) : ¬ IsVF n es s := fun ⟨m, e, hv, _⟩ => by
  rw [Si.valid_iff.2 (by rw [e]; exact hv)] at h
  cases h

section
variable {n : Nat} {es : List (Int × Int)} {s : Df.St}
/-- Of the ends of an edge just one is above the other. -/
theorem one_above (hval : Si.Val n es) (h : Df.VF n es s) {i : Nat} {p : Int × Int} (hp : es[i]? = some p) : (AboveP n es s p.1 p.2 ∧ ¬ AboveP n es s p.2 p.1) ∨ (AboveP n es s p.2 p.1 ∧ ¬ AboveP n es s p.1 p.2) := by
  have hi : i < es.length := (List.getElem?_eq_some_iff.1 hp).1
  have ho := hval.each i p hp
  unfold Si.ok at ho
  obtain ⟨e1, e2⟩ := Cs.fr_even hp
  have hone := h.one hval hi
  rw [e1, e2] at hone
  have mk : ∀ a b : Int, 0 ≤ a → 0 ≤ b → a < n → b < n → (AboveP n es s a b ↔ Df.Anc es s ((a.toNat : Nat) : Int) ((b.toNat : Nat) : Int)) := fun a b ha hb han hbn => by
    constructor
    · rintro ⟨_, u, v, rfl, rfl, _, _, h⟩
      simpa using h
    · exact fun h' => ⟨⟨n, rfl, hval, h⟩, a.toNat, b.toNat, by omega, by omega, by omega, by omega, h'⟩
  rw [mk p.1 p.2 (by omega) (by omega) (by omega) (by omega), mk p.2 p.1 (by omega) (by omega) (by omega) (by omega)]
  exact hone
end

set_option maxRecDepth 100000 in
set_option maxHeartbeats 32000000 in
theorem walk (n : Int) (ao : Option Addr) (ca : Nat) (es : List (Int × Int)) (w : World) (_ : -9223372036854775808 ≤ n ∧ n ≤ 9223372036854775807) (hq : PairsIn w ao es.length ca es) (hl : es.length * 16 ≤ 140737488351232) :
    Calls Try.prog 4 #[.agg #[.int .i64 n, .slice ao es.length ca]] w fun e w' => e = .returned (.bool true) ∧ Below w.heap.size w w' := by
  obtain ⟨W, hW⟩ : ∃ W, W = w.alloc (.cells #[.int .i64 n, .slice ao es.length ca] 24) := ⟨_, rfl⟩
  have hB0 : Below w.heap.size w W := by rw [hW]; exact (Below.refl _ _).alloc (Nat.le_refl _) _
  have g1 : W.heap[w.heap.size]? = some (.cells #[.int .i64 n, .slice ao es.length ca] 24 (0, 0)) := by rw [hW]; exact heap_alloc_new w _
  have hlt := lt_of_block g1
  have HBOX : Hid (∀ V, Below W.heap.size W V → V.cell? ⟨w.heap.size, 0, none⟩ = some (.int .i64 n) ∧ V.cell? ⟨w.heap.size, 1, none⟩ = some (.slice ao es.length ca)) := fun V hV => by
    obtain ⟨x0, x1, -⟩ := pair_cells ((hV.block w.heap.size hlt).trans g1)
    exact ⟨x0, x1⟩
  have hat := hq.hat.later hB0
  have HLW : Hid (∀ V, Below W.heap.size W V → Calls Try.prog 10 #[.agg #[.int .i64 n, .slice ao es.length ca]] V (WalkPost n es V)) := fun V hV => lwalk_any n ao ca es V (hat.later hV) (fun h => (hq.hnil h).2) (by omega)
  have HCG : Hid (∀ V, Below W.heap.size W V → Calls Try.prog 15 #[.agg #[.int .i64 n, .slice ao es.length ca]] V fun e V' => ∃ gb c, e = .returned (.agg #[.int .i64 n, .slice (some ⟨gb, 0, none⟩) es.length c]) ∧ EdgesAt V' (some ⟨gb, 0, none⟩) es ∧ Below V.heap.size V V') := fun V hV => copyG_at n ao ca es V (hat.later hV) (fun h => (hq.hnil h).2) (by omega)
  have HAT := Nu.hid hat
  have HAW := Nu.hid (awake_any W)
  have HWW := Nu.hid hW
  have HB0 := Nu.hid hB0
  clear hq hB0 g1 hW hat
  by_cases hbig : 3000 < es.length
  · have t1 : decide ((3000 : Int) < (es.length : Int)) = true := by simp; omega
    clear hbig
    go_enter Try.func4, Try.ntmps4
    go_wp2_with (go_at_call 9; rw [← HWW.out]; refine HAW.out.mono ?_; rintro e w1 ⟨rfl, hb1⟩; obtain ⟨x0, x1⟩ := HBOX.out w1 hb1; have HB1 := Nu.hid hb1; clear hb1)
    go_ret
    exact ⟨rfl, HB0.out.trans (HB1.out.mono HB0.out.size)⟩
  have t1 : decide ((3000 : Int) < (es.length : Int)) = false := by simp; omega
  by_cases hbn : 20000 < n
  · have t2 : decide ((20000 : Int) < n) = true := by simp; omega
    clear hbig hbn
    go_enter Try.func4, Try.ntmps4
    go_wp2_with (go_at_call 9; rw [← HWW.out]; refine HAW.out.mono ?_; rintro e w1 ⟨rfl, hb1⟩; obtain ⟨x0, x1⟩ := HBOX.out w1 hb1; have HB1 := Nu.hid hb1; clear hb1)
    go_ret
    exact ⟨rfl, HB0.out.trans (HB1.out.mono HB0.out.size)⟩
  have t2 : decide ((20000 : Int) < n) = false := by simp; omega
  have hnb : n ≤ 20000 := by omega
  have heb : es.length ≤ 3000 := by omega
  clear hbig hbn
  go_enter Try.func4, Try.ntmps4
  go_wp2_with (go_at_call 9; rw [← HWW.out]; refine HAW.out.mono ?_; rintro e w1 ⟨rfl, hb1⟩; refine Hid.out ?_)
  refine Nu.hid ?_
  obtain ⟨x0, x1⟩ := HBOX.out w1 hb1
  have HLW1 := Nu.hid (HLW.out w1 hb1)
  have HB1 := Nu.hid hb1
  have hs1 := hb1.size
  clear hb1
  go_wp2_with (go_at_call 10; refine HLW1.out.mono ?_; rintro e w2 ⟨v1, v2, v3, v4, s, z, rfl, hown, hcase, hb2⟩; refine Hid.out ?_)
  refine Nu.hid ?_
  have hlens : s.par.length ≤ 17592186043904 ∧ s.hei.length ≤ 17592186043904 ∧ s.ord.length ≤ 17592186043904 ∧ s.ori.length ≤ 17592186043904 := by
    rcases hcase with ⟨m, rfl, hval, hwk, _⟩ | ⟨_, rfl, _⟩
    · exact walk_len hval hwk
    · decide
  obtain ⟨f, rfl, rfl, rfl, rfl, hl2⟩ := hown.lst hlens
  obtain ⟨a1, a2, a3, a4, c1, c2, c3, c4⟩ := f
  have hb2' := HB1.out.trans (hb2.mono HB1.out.size)
  obtain ⟨w3, hw3⟩ : ∃ w3, w3 = w2.alloc (.cells #[.slice a1 s.par.length c1, .slice a2 s.hei.length c2, .slice a3 s.ord.length c3, .slice a4 s.ori.length c4] 28) := ⟨_, rfl⟩
  have hb3 : Below w2.heap.size w2 w3 := by rw [hw3]; exact (Below.refl _ _).alloc (Nat.le_refl _) _
  have g3 : w3.heap[w2.heap.size]? = some (.cells #[.slice a1 s.par.length c1, .slice a2 s.hei.length c2, .slice a3 s.ord.length c3, .slice a4 s.ori.length c4] 28 (0, 0)) := by rw [hw3]; exact heap_alloc_new w2 _
  have hb3' := hb2'.trans (hb3.mono hb2'.size)
  have HL3 := Nu.hid (hl2.later hb3)
  have hlt3 := lt_of_block g3
  have HS : Hid (∀ V, Below w3.heap.size w3 V → V.cell? ⟨w.heap.size, 0, none⟩ = some (.int .i64 n) ∧ V.cell? ⟨w.heap.size, 1, none⟩ = some (.slice ao es.length ca) ∧ V.cell? ⟨w2.heap.size, 0, none⟩ = some (.slice a1 s.par.length c1) ∧ V.cell? ⟨w2.heap.size, 1, none⟩ = some (.slice a2 s.hei.length c2) ∧ V.cell? ⟨w2.heap.size, 2, none⟩ = some (.slice a3 s.ord.length c3) ∧ V.cell? ⟨w2.heap.size, 3, none⟩ = some (.slice a4 s.ori.length c4)) := fun V hV => by
    obtain ⟨x0, x1⟩ := HBOX.out V (hb3'.trans (hV.mono hb3'.size))
    obtain ⟨q0, q1, q2, q3, -⟩ := four_cells ((hV.block w2.heap.size hlt3).trans g3)
    exact ⟨x0, x1, q0, q1, q2, q3⟩
  have HCG3 : Hid (∀ V, Below w3.heap.size w3 V → Calls Try.prog 15 #[.agg #[.int .i64 n, .slice ao es.length ca]] V fun e V' => ∃ gb c, e = .returned (.agg #[.int .i64 n, .slice (some ⟨gb, 0, none⟩) es.length c]) ∧ EdgesAt V' (some ⟨gb, 0, none⟩) es ∧ Below V.heap.size V V') := fun V hV => HCG.out V (hb3'.trans (hV.mono hb3'.size))
  have HCF : Hid (∀ V, Below w3.heap.size w3 V → Calls Try.prog 16 #[.agg #[.slice a1 s.par.length c1, .slice a2 s.hei.length c2, .slice a3 s.ord.length c3, .slice a4 s.ori.length c4]] V fun e V' => ∃ a1 a2 a3 a4 c1 c2 c3 c4, e = .returned (.agg #[.slice a1 s.par.length c1, .slice a2 s.hei.length c2, .slice a3 s.ord.length c3, .slice a4 s.ori.length c4]) ∧ LstF V' ⟨a1, a2, a3, a4, c1, c2, c3, c4⟩ s ∧ Below V.heap.size V V') := fun V hV => copyF_at ⟨a1, a2, a3, a4, c1, c2, c3, c4⟩ s V (HL3.out.later hV)
  have HDV : Hid (∀ V gb c b1 b2 b3 b4 d1 d2 d3 d4, EdgesAt V (some ⟨gb, 0, none⟩) es → LstF V ⟨b1, b2, b3, b4, d1, d2, d3, d4⟩ s → Calls Try.prog 14 #[.agg #[.int .i64 n, .slice (some ⟨gb, 0, none⟩) es.length c], .agg #[.slice b1 s.par.length d1, .slice b2 s.hei.length d2, .slice b3 s.ord.length d3, .slice b4 s.ori.length d4]] V (BoolPost (IsVF n es s) V)) := fun V gb c b1 b2 b3 b4 d1 d2 d3 d4 h1 h2 => dvalid_any n _ c es ⟨b1, b2, b3, b4, d1, d2, d3, d4⟩ s V h1 (by omega) h2
  have HB3 := Nu.hid hb3'
  have HW3 := Nu.hid hw3
  have HATW : Hid (∀ V, Below w3.heap.size w3 V → EdgesAt V ao es ∧ LstF V ⟨a1, a2, a3, a4, c1, c2, c3, c4⟩ s) := fun V hV => ⟨HAT.out.later (hb3'.trans (hV.mono hb3'.size)), HL3.out.later hV⟩
  have hbd : Below w3.heap.size w3 w3.drew := (Below.refl _ _).drew
  have HFIN : Hid (∀ V, Below w3.heap.size w3 V → Below w.heap.size w V) := fun V hV => HB0.out.trans ((hb3'.trans (hV.mono hb3'.size)).mono HB0.out.size)
  obtain ⟨y0, y1, y2, y3, y4, y5⟩ := HS.out w3 (Below.refl _ _)
  rw [hw3] at y0 y1 y2 y3 y4 y5
  rcases hcase with ⟨m, hm, hval, hwk, rfl⟩ | ⟨hnv, -, rfl⟩
  · have hvalm : Si.Val m es := by rw [← hm]; exact hval
    have hvf := hwk.vf hvalm
    have HVF := Nu.hid hvf
    have HVM := Nu.hid hvalm
    have HM := Nu.hid hm
    have HDT : Hid (∀ V gb c b1 b2 b3 b4 d1 d2 d3 d4, EdgesAt V (some ⟨gb, 0, none⟩) es → LstF V ⟨b1, b2, b3, b4, d1, d2, d3, d4⟩ s → Calls Try.prog 14 #[.agg #[.int .i64 n, .slice (some ⟨gb, 0, none⟩) es.length c], .agg #[.slice b1 s.par.length d1, .slice b2 s.hei.length d2, .slice b3 s.ord.length d3, .slice b4 s.ori.length d4]] V fun e V' => e = .returned (.bool true) ∧ Below V.heap.size V V') := fun V gb c b1 b2 b3 b4 d1 d2 d3 d4 h1 h2 => BoolPost.yes (HDV.out V gb c b1 b2 b3 b4 d1 d2 d3 d4 h1 h2) ⟨m, hm, hvalm, hvf⟩
    have HLN := Nu.hid hvf.lens
    have t3 : ((s.ord.length : Int) != n) = false := by rw [hvf.lens.2.2.1, hm]; simp
    have t4 : ((s.ori.length : Int) != (es.length : Int)) = false := by rw [hvf.lens.2.2.2]; simp
    clear hown hb2 hl2 hlens hb2' hb3 g3 hb3' hw3 HLW HLW1 HDV hvf hvalm hwk hval hm
    go_wp2_with fail
    rw [← HW3.out]
    go_region_held3 (fun V => V.cell? ⟨w.heap.size, 0, none⟩ = some (.int .i64 n) ∧ V.cell? ⟨w.heap.size, 1, none⟩ = some (.slice ao es.length ca) ∧ V.cell? ⟨w2.heap.size, 0, none⟩ = some (.slice a1 s.par.length c1) ∧ V.cell? ⟨w2.heap.size, 1, none⟩ = some (.slice a2 s.hei.length c2) ∧ V.cell? ⟨w2.heap.size, 2, none⟩ = some (.slice a3 s.ord.length c3) ∧ V.cell? ⟨w2.heap.size, 3, none⟩ = some (.slice a4 s.ori.length c4))
      (exact HS.out _ (by first | assumption | exact hbd))
      ((first
        | (go_at_call 15; refine (HCG3.out _ (by first | assumption | exact hbd)).mono ?_; rintro e V1 ⟨gb, c, rfl, hE1, hv1⟩; have hb1 : Below w3.heap.size w3 V1 := Below.trans (by first | assumption | exact hbd) (hv1.mono (Below.size (by first | assumption | exact hbd))))
        | (go_at_call 16; refine (HCF.out _ (by first | assumption | exact hbd)).mono ?_; rintro e V2 ⟨b1, b2, b3, b4, d1, d2, d3, d4, rfl, hl1, hv2⟩; have hE2 : EdgesAt V2 _ es := EdgesAt.later (by assumption) hv2; have hb2 : Below w3.heap.size w3 V2 := Below.trans (by first | assumption | exact hbd) (hv2.mono (Below.size (by first | assumption | exact hbd))))
        | (go_at_call 14; refine (HDT.out _ _ _ _ _ _ _ _ _ _ _ (by assumption) (by assumption)).mono ?_; rintro e V3 ⟨rfl, hv3⟩; have hb3 : Below w3.heap.size w3 V3 := Below.trans (by first | assumption | exact hbd) (hv3.mono (Below.size (by first | assumption | exact hbd))))))
    all_goals
      obtain ⟨y0, y1, y2, y3, y4, y5⟩ := HS.out _ hb3
      go_wp2
      have HV3 := Nu.hid hb3
      clear hb1 hb2 hb3 hv1 hv2 hv3 hE1 hE2 hl1
      go_loopw [5, 7] (fun c5 c7 wr => ∃ k : Nat, k ≤ m ∧ c7 = .int .i64 k ∧ c5 = .int .i64 (Df.cn (Df.rootB s) k : Int) ∧ Below w3.heap.size w3 wr) (fun _ c7 _ => m - (intOf c7).toNat)
      case atStart => exact ⟨0, Nat.zero_le _, rfl, rfl, HV3.out⟩
      case round =>
        obtain ⟨k, hk, rfl, rfl, hb⟩ := hrel
        obtain ⟨z0, z1, z2, z3, z4, z5⟩ := HS.out wr hb
        have HB := Nu.hid hb
        have hcn := Df.cn_le (Df.rootB s) k
        by_cases hlt : k < m
        · have hlti : (k : Int) < n := by have := HM.out; omega
          have hk0 : (0 : Int) ≤ (k : Int) := by omega
          have hkl : k < s.par.length := by rw [HLN.out.1]; exact hlt
          have hkl2 : (k : Int) < (s.par.length : Int) := by omega
          obtain ⟨bp, op, ep, dp⟩ := lst_at (HATW.out wr hb).2.l1 (i := k) hkl
          dsimp only at ep
          subst ep
          obtain ⟨x, hx⟩ : ∃ x, s.par.getD k (-1) = x := ⟨_, rfl⟩
          rw [hx] at dp
          have hroot : Df.rootB s k = decide (x < 0) := by
            unfold Df.rootB
            rw [show Df.at_ s.par k = x from hx]
          obtain ⟨cc, hcc⟩ : ∃ cc, Df.cn (Df.rootB s) k = cc := ⟨_, rfl⟩
          rw [hcc] at hcn ⊢
          by_cases hx0 : x < 0
          · have HC : Hid (Df.cn (Df.rootB s) (k + 1) = cc + 1) := by rw [← hcc]; exact Df.cn_yes (by rw [hroot]; simp [hx0])
            clear hb hroot hx hcc
            go_wp2
            go_roundw
            case rel => exact ⟨k + 1, by omega, by go_num, by rw [HC.out]; go_num, HB.out⟩
            case measure => simp [intOf]; omega
          · have HC : Hid (Df.cn (Df.rootB s) (k + 1) = cc) := by rw [← hcc]; exact Df.cn_no (by rw [hroot]; simp [hx0])
            have t5 : decide (x < 0) = false := by simp [hx0]
            clear hb hroot hx hcc
            go_wp2
            go_roundw
            case rel => exact ⟨k + 1, by omega, by go_num, by rw [HC.out], HB.out⟩
            case measure => simp [intOf]; omega
        · have hd : ¬ ((k : Int) < n) := by have := HM.out; omega
          obtain rfl : k = m := by omega
          obtain ⟨rr, hrr⟩ : ∃ rr, Df.cn (Df.rootB s) k = rr := ⟨_, rfl⟩
          have HRR := Nu.hid hrr
          rw [hrr] at hcn ⊢
          clear hb hrr hlt
          go_wp2
          clear z0 z1 z2 z3 z4 z5 hd
          go_loopw [6, 8] (fun c6 c8 wr => ∃ i : Nat, i ≤ es.length ∧ c8 = .int .i64 i ∧ c6 = .int .i64 (Df.cn (Df.treeB s) i : Int) ∧ Below w3.heap.size w3 wr) (fun _ c8 _ => es.length - (intOf c8).toNat)
          case atStart => exact ⟨0, Nat.zero_le _, rfl, rfl, HB.out⟩
          case round =>
            obtain ⟨i, hi, rfl, rfl, hb⟩ := hrel
            obtain ⟨z0, z1, z2, z3, z4, z5⟩ := HS.out wr hb
            have HB2 := Nu.hid hb
            have hcn2 := Df.cn_le (Df.treeB s) i
            by_cases hlt : i < es.length
            · obtain ⟨⟨pu, pv⟩, hp⟩ : ∃ p, es[i]? = some p := ⟨_, List.getElem?_eq_getElem hlt⟩
              obtain ⟨be, oe, he0, hc1, hc2⟩ := (HATW.out wr hb).1 i _ hp
              dsimp only at hc1 hc2
              subst he0
              have HEC : Hid (∀ V, Below w3.heap.size w3 V → V.cell? ⟨be, oe + i * 2, none⟩ = some (.int .i64 pu) ∧ V.cell? ⟨be, oe + i * 2 + 1, none⟩ = some (.int .i64 pv)) := fun V hV => by
                obtain ⟨b', o', e', h1, h2⟩ := (HATW.out V hV).1 i _ hp
                cases e'
                exact ⟨h1, h2⟩
              obtain ⟨bb, hbb⟩ : ∃ bb, Df.back s (i : Int) = bb := ⟨_, rfl⟩
              have HBK : Hid (∀ V b1 b2 b3 b4 d1 d2 d3 d4, LstF V ⟨b1, b2, b3, b4, d1, d2, d3, d4⟩ s → Calls Try.prog 17 #[.agg #[.slice b1 s.par.length d1, .slice b2 s.hei.length d2, .slice b3 s.ord.length d3, .slice b4 s.ori.length d4], .int .i64 (i : Int)] V fun e V' => e = .returned (.bool bb) ∧ Below V.heap.size V V') := fun V b1 b2 b3 b4 d1 d2 d3 d4 h => by
                have := back_any ⟨b1, b2, b3, b4, d1, d2, d3, d4⟩ s (i : Int) V h
                rw [hbb] at this
                exact this
              have hone : (AboveP n es s pu pv ∧ ¬ AboveP n es s pv pu) ∨ (AboveP n es s pv pu ∧ ¬ AboveP n es s pu pv) := by
                have := one_above HVM.out HVF.out hp
                rw [← HM.out] at this
                exact this
              have htree : Df.treeB s i = !bb := by unfold Df.treeB; rw [hbb]
              obtain ⟨cc, hcc⟩ : ∃ cc, Df.cn (Df.treeB s) i = cc := ⟨_, rfl⟩
              have HLT := Nu.hid hlt
              have hlti : (i : Int) < (es.length : Int) := by omega
              have hi0 : (0 : Int) ≤ (i : Int) := by omega
              have HC : Hid (Df.cn (Df.treeB s) (i + 1) = cc + if bb = true then 0 else 1) := by
                rw [← hcc]
                cases bb with
                | true => exact Df.cn_no (by rw [htree]; rfl)
                | false => exact Df.cn_yes (by rw [htree]; rfl)
              rw [hcc] at hcn2 ⊢
              by_cases h40 : i < 40
              · have t7 : (i : Int) < 40 := by omega
                rcases hone with ⟨p1, p2⟩ | ⟨p1, p2⟩
                · have HA1 : Hid (∀ V gb c b1 b2 b3 b4 d1 d2 d3 d4, EdgesAt V (some ⟨gb, 0, none⟩) es → LstF V ⟨b1, b2, b3, b4, d1, d2, d3, d4⟩ s → Calls Try.prog 18 #[.agg #[.int .i64 n, .slice (some ⟨gb, 0, none⟩) es.length c], .agg #[.slice b1 s.par.length d1, .slice b2 s.hei.length d2, .slice b3 s.ord.length d3, .slice b4 s.ori.length d4], .int .i64 pu, .int .i64 pv] V fun e V' => e = .returned (.bool true) ∧ Below V.heap.size V V') := fun V gb c b1 b2 b3 b4 d1 d2 d3 d4 h1 h2 => BoolPost.yes (dabove_any n _ c es ⟨b1, b2, b3, b4, d1, d2, d3, d4⟩ s pu pv V h1 (by omega) h2) p1
                  have HA2 : Hid (∀ V gb c b1 b2 b3 b4 d1 d2 d3 d4, EdgesAt V (some ⟨gb, 0, none⟩) es → LstF V ⟨b1, b2, b3, b4, d1, d2, d3, d4⟩ s → Calls Try.prog 18 #[.agg #[.int .i64 n, .slice (some ⟨gb, 0, none⟩) es.length c], .agg #[.slice b1 s.par.length d1, .slice b2 s.hei.length d2, .slice b3 s.ord.length d3, .slice b4 s.ori.length d4], .int .i64 pv, .int .i64 pu] V fun e V' => e = .returned (.bool false) ∧ Below V.heap.size V V') := fun V gb c b1 b2 b3 b4 d1 d2 d3 d4 h1 h2 => BoolPost.no (dabove_any n _ c es ⟨b1, b2, b3, b4, d1, d2, d3, d4⟩ s pv pu V h1 (by omega) h2) p2
                  clear hb hp hbb htree hcc p1 p2 hlt h40 hc1 hc2
                  cases bb <;>
                  · go_wp2_with (first | (go_at_call 16; refine (HCF.out _ HB2.out).mono ?_; rintro e V1 ⟨b1, b2, b3, b4, d1, d2, d3, d4, rfl, hl1, hv1⟩; have hb1 : Below w3.heap.size w3 V1 := HB2.out.trans (hv1.mono HB2.out.size); have HB5 := Nu.hid hb1; have HL5 := Nu.hid hl1; clear hb1 hl1 hv1) | (go_at_call 17; refine (HBK.out _ _ _ _ _ _ _ _ _ HL5.out).mono ?_; rintro e V2 ⟨rfl, hv2⟩; have hb2 : Below w3.heap.size w3 V2 := HB5.out.trans (hv2.mono HB5.out.size); have HB6 := Nu.hid hb2; clear hb2 hv2; obtain ⟨q0, q1, q2, q3, q4, q5⟩ := HS.out V2 HB6.out; have hbe : Below w3.heap.size w3 V2.drew := HB6.out.drew; obtain ⟨hc1, hc2⟩ := HEC.out V2 HB6.out))
                    go_quiet (fail)
                    clear hbe q0 q1 q2 q3 q4 q5 z0 z1 z2 z3 z4 z5 hc1 hc2
                    obtain ⟨Vq, hVq⟩ : ∃ Vq, Vq = V2.drewN nq := ⟨_, rfl⟩
                    rw [← hVq]
                    have hbq : Below w3.heap.size w3 Vq := by rw [hVq]; exact below_drewN HB6.out _
                    have HBQ := Nu.hid hbq
                    obtain ⟨q0, q1, q2, q3, q4, q5⟩ := HS.out Vq hbq
                    have hbe : Below w3.heap.size w3 Vq.drew := hbq.drew
                    clear hVq hbq
                    go_wp2_with fail
                    go_region_held3 (fun V => V.cell? ⟨w.heap.size, 0, none⟩ = some (.int .i64 n) ∧ V.cell? ⟨w.heap.size, 1, none⟩ = some (.slice (some ⟨be, oe, none⟩) es.length ca) ∧ V.cell? ⟨w2.heap.size, 0, none⟩ = some (.slice a1 s.par.length c1) ∧ V.cell? ⟨w2.heap.size, 1, none⟩ = some (.slice a2 s.hei.length c2) ∧ V.cell? ⟨w2.heap.size, 2, none⟩ = some (.slice a3 s.ord.length c3) ∧ V.cell? ⟨w2.heap.size, 3, none⟩ = some (.slice a4 s.ori.length c4))
                      (exact HS.out _ (by first | assumption | exact hbe))
                      ((first
                        | (go_at_call 15; refine (HCG3.out _ (by first | assumption | exact hbe)).mono ?_; rintro e V1 ⟨gb, c, rfl, hE1, hv1⟩; have hb1 : Below w3.heap.size w3 V1 := Below.trans (by first | assumption | exact hbe) (hv1.mono (Below.size (by first | assumption | exact hbe))))
                        | (go_at_call 16; refine (HCF.out _ (by first | assumption | exact hbe)).mono ?_; rintro e V2 ⟨b1, b2, b3, b4, d1, d2, d3, d4, rfl, hl1, hv2⟩; have hE2 : EdgesAt V2 _ es := EdgesAt.later (by assumption) hv2; have hb2 : Below w3.heap.size w3 V2 := Below.trans (by first | assumption | exact hbe) (hv2.mono (Below.size (by first | assumption | exact hbe))))
                        | (go_at_call 18; with_reducible refine (HA1.out _ _ _ _ _ _ _ _ _ _ _ (by assumption) (by assumption)).mono ?_; rintro e V3 ⟨rfl, hv3⟩; have hb3 : Below w3.heap.size w3 V3 := Below.trans (by first | assumption | exact hbe) (hv3.mono (Below.size (by first | assumption | exact hbe))))
                        | (go_at_call 18; with_reducible refine (HA2.out _ _ _ _ _ _ _ _ _ _ _ (by assumption) (by assumption)).mono ?_; rintro e V4 ⟨rfl, hv4⟩; have hb4 : Below w3.heap.size w3 V4 := Below.trans (by first | assumption | exact hbe) (hv4.mono (Below.size (by first | assumption | exact hbe))))))
                    all_goals
                      have HB9 := Nu.hid hb4
                      go_wp2
                      go_roundw
                      case rel => exact ⟨i + 1, by have := HLT.out; omega, by go_num, by rw [HC.out]; go_num, HB9.out⟩
                      case measure => simp [intOf]; omega
                · have HA1 : Hid (∀ V gb c b1 b2 b3 b4 d1 d2 d3 d4, EdgesAt V (some ⟨gb, 0, none⟩) es → LstF V ⟨b1, b2, b3, b4, d1, d2, d3, d4⟩ s → Calls Try.prog 18 #[.agg #[.int .i64 n, .slice (some ⟨gb, 0, none⟩) es.length c], .agg #[.slice b1 s.par.length d1, .slice b2 s.hei.length d2, .slice b3 s.ord.length d3, .slice b4 s.ori.length d4], .int .i64 pu, .int .i64 pv] V fun e V' => e = .returned (.bool false) ∧ Below V.heap.size V V') := fun V gb c b1 b2 b3 b4 d1 d2 d3 d4 h1 h2 => BoolPost.no (dabove_any n _ c es ⟨b1, b2, b3, b4, d1, d2, d3, d4⟩ s pu pv V h1 (by omega) h2) p2
                  have HA2 : Hid (∀ V gb c b1 b2 b3 b4 d1 d2 d3 d4, EdgesAt V (some ⟨gb, 0, none⟩) es → LstF V ⟨b1, b2, b3, b4, d1, d2, d3, d4⟩ s → Calls Try.prog 18 #[.agg #[.int .i64 n, .slice (some ⟨gb, 0, none⟩) es.length c], .agg #[.slice b1 s.par.length d1, .slice b2 s.hei.length d2, .slice b3 s.ord.length d3, .slice b4 s.ori.length d4], .int .i64 pv, .int .i64 pu] V fun e V' => e = .returned (.bool true) ∧ Below V.heap.size V V') := fun V gb c b1 b2 b3 b4 d1 d2 d3 d4 h1 h2 => BoolPost.yes (dabove_any n _ c es ⟨b1, b2, b3, b4, d1, d2, d3, d4⟩ s pv pu V h1 (by omega) h2) p1
                  clear hb hp hbb htree hcc p1 p2 hlt h40 hc1 hc2
                  cases bb <;>
                  · go_wp2_with (first | (go_at_call 16; refine (HCF.out _ HB2.out).mono ?_; rintro e V1 ⟨b1, b2, b3, b4, d1, d2, d3, d4, rfl, hl1, hv1⟩; have hb1 : Below w3.heap.size w3 V1 := HB2.out.trans (hv1.mono HB2.out.size); have HB5 := Nu.hid hb1; have HL5 := Nu.hid hl1; clear hb1 hl1 hv1) | (go_at_call 17; refine (HBK.out _ _ _ _ _ _ _ _ _ HL5.out).mono ?_; rintro e V2 ⟨rfl, hv2⟩; have hb2 : Below w3.heap.size w3 V2 := HB5.out.trans (hv2.mono HB5.out.size); have HB6 := Nu.hid hb2; clear hb2 hv2; obtain ⟨q0, q1, q2, q3, q4, q5⟩ := HS.out V2 HB6.out; have hbe : Below w3.heap.size w3 V2.drew := HB6.out.drew; obtain ⟨hc1, hc2⟩ := HEC.out V2 HB6.out))
                    go_quiet (fail)
                    clear hbe q0 q1 q2 q3 q4 q5 z0 z1 z2 z3 z4 z5 hc1 hc2
                    obtain ⟨Vq, hVq⟩ : ∃ Vq, Vq = V2.drewN nq := ⟨_, rfl⟩
                    rw [← hVq]
                    have hbq : Below w3.heap.size w3 Vq := by rw [hVq]; exact below_drewN HB6.out _
                    have HBQ := Nu.hid hbq
                    obtain ⟨q0, q1, q2, q3, q4, q5⟩ := HS.out Vq hbq
                    have hbe : Below w3.heap.size w3 Vq.drew := hbq.drew
                    clear hVq hbq
                    go_wp2_with fail
                    go_region_held3 (fun V => V.cell? ⟨w.heap.size, 0, none⟩ = some (.int .i64 n) ∧ V.cell? ⟨w.heap.size, 1, none⟩ = some (.slice (some ⟨be, oe, none⟩) es.length ca) ∧ V.cell? ⟨w2.heap.size, 0, none⟩ = some (.slice a1 s.par.length c1) ∧ V.cell? ⟨w2.heap.size, 1, none⟩ = some (.slice a2 s.hei.length c2) ∧ V.cell? ⟨w2.heap.size, 2, none⟩ = some (.slice a3 s.ord.length c3) ∧ V.cell? ⟨w2.heap.size, 3, none⟩ = some (.slice a4 s.ori.length c4))
                      (exact HS.out _ (by first | assumption | exact hbe))
                      ((first
                        | (go_at_call 15; refine (HCG3.out _ (by first | assumption | exact hbe)).mono ?_; rintro e V1 ⟨gb, c, rfl, hE1, hv1⟩; have hb1 : Below w3.heap.size w3 V1 := Below.trans (by first | assumption | exact hbe) (hv1.mono (Below.size (by first | assumption | exact hbe))))
                        | (go_at_call 16; refine (HCF.out _ (by first | assumption | exact hbe)).mono ?_; rintro e V2 ⟨b1, b2, b3, b4, d1, d2, d3, d4, rfl, hl1, hv2⟩; have hE2 : EdgesAt V2 _ es := EdgesAt.later (by assumption) hv2; have hb2 : Below w3.heap.size w3 V2 := Below.trans (by first | assumption | exact hbe) (hv2.mono (Below.size (by first | assumption | exact hbe))))
                        | (go_at_call 18; with_reducible refine (HA1.out _ _ _ _ _ _ _ _ _ _ _ (by assumption) (by assumption)).mono ?_; rintro e V3 ⟨rfl, hv3⟩; have hb3 : Below w3.heap.size w3 V3 := Below.trans (by first | assumption | exact hbe) (hv3.mono (Below.size (by first | assumption | exact hbe))))
                        | (go_at_call 18; with_reducible refine (HA2.out _ _ _ _ _ _ _ _ _ _ _ (by assumption) (by assumption)).mono ?_; rintro e V4 ⟨rfl, hv4⟩; have hb4 : Below w3.heap.size w3 V4 := Below.trans (by first | assumption | exact hbe) (hv4.mono (Below.size (by first | assumption | exact hbe))))))
                    all_goals
                      have HB9 := Nu.hid hb4
                      go_wp2
                      go_roundw
                      case rel => exact ⟨i + 1, by have := HLT.out; omega, by go_num, by rw [HC.out]; go_num, HB9.out⟩
                      case measure => simp [intOf]; omega
              · have t7 : ¬ ((i : Int) < 40) := by omega
                clear hb hp hbb htree hcc hone hlt h40 hc1 hc2
                cases bb <;>
                · go_wp2_with (first | (go_at_call 16; refine (HCF.out _ HB2.out).mono ?_; rintro e V1 ⟨b1, b2, b3, b4, d1, d2, d3, d4, rfl, hl1, hv1⟩; have hb1 : Below w3.heap.size w3 V1 := HB2.out.trans (hv1.mono HB2.out.size); have HB5 := Nu.hid hb1; have HL5 := Nu.hid hl1; clear hb1 hl1 hv1) | (go_at_call 17; refine (HBK.out _ _ _ _ _ _ _ _ _ HL5.out).mono ?_; rintro e V2 ⟨rfl, hv2⟩; have hb2 : Below w3.heap.size w3 V2 := HB5.out.trans (hv2.mono HB5.out.size); have HB6 := Nu.hid hb2; clear hb2 hv2; obtain ⟨q0, q1, q2, q3, q4, q5⟩ := HS.out V2 HB6.out; have hbe : Below w3.heap.size w3 V2.drew := HB6.out.drew; obtain ⟨hc1, hc2⟩ := HEC.out V2 HB6.out))
                  go_roundw
                  case rel => exact ⟨i + 1, by have := HLT.out; omega, by go_num, by rw [HC.out]; go_num, HB6.out⟩
                  case measure => simp [intOf]; omega
            · have hd : ¬ ((i : Int) < (es.length : Int)) := by omega
              have hce : (Df.cn (Df.treeB s) i : Int) = n - (rr : Int) := by
                have h1 := HVF.out.count
                rw [HRR.out, show es.length = i by omega] at h1
                have := HM.out
                omega
              rw [hce]
              have hn0 : 0 ≤ n - (rr : Int) := by have := HM.out; omega
              have hn1 : n - (rr : Int) ≤ 20000 := by omega
              have t6 : (n - (rr : Int) == n - (rr : Int)) = true := by simp
              clear hb hlt hce
              go_wp2
              go_ret
              exact ⟨rfl, HFIN.out _ HB2.out⟩
  · have HDF : Hid (∀ V gb c b1 b2 b3 b4 d1 d2 d3 d4, EdgesAt V (some ⟨gb, 0, none⟩) es → LstF V ⟨b1, b2, b3, b4, d1, d2, d3, d4⟩ s → Calls Try.prog 14 #[.agg #[.int .i64 n, .slice (some ⟨gb, 0, none⟩) es.length c], .agg #[.slice b1 s.par.length d1, .slice b2 s.hei.length d2, .slice b3 s.ord.length d3, .slice b4 s.ori.length d4]] V fun e V' => e = .returned (.bool false) ∧ Below V.heap.size V V') := fun V gb c b1 b2 b3 b4 d1 d2 d3 d4 h1 h2 => BoolPost.no (HDV.out V gb c b1 b2 b3 b4 d1 d2 d3 d4 h1 h2) (no_vf hnv)
    clear hown hb2 hl2 hlens hb2' hb3 g3 hb3' hw3 HLW HLW1 HDV hnv
    go_wp2_with fail
    rw [← HW3.out]
    go_region_held3 (fun V => V.cell? ⟨w.heap.size, 0, none⟩ = some (.int .i64 n) ∧ V.cell? ⟨w.heap.size, 1, none⟩ = some (.slice ao es.length ca) ∧ V.cell? ⟨w2.heap.size, 0, none⟩ = some (.slice a1 s.par.length c1) ∧ V.cell? ⟨w2.heap.size, 1, none⟩ = some (.slice a2 s.hei.length c2) ∧ V.cell? ⟨w2.heap.size, 2, none⟩ = some (.slice a3 s.ord.length c3) ∧ V.cell? ⟨w2.heap.size, 3, none⟩ = some (.slice a4 s.ori.length c4))
      (exact HS.out _ (by first | assumption | exact hbd))
      ((first
        | (go_at_call 15; refine (HCG3.out _ (by first | assumption | exact hbd)).mono ?_; rintro e V1 ⟨gb, c, rfl, hE1, hv1⟩; have hb1 : Below w3.heap.size w3 V1 := Below.trans (by first | assumption | exact hbd) (hv1.mono (Below.size (by first | assumption | exact hbd))))
        | (go_at_call 16; refine (HCF.out _ (by first | assumption | exact hbd)).mono ?_; rintro e V2 ⟨b1, b2, b3, b4, d1, d2, d3, d4, rfl, hl1, hv2⟩; have hE2 : EdgesAt V2 _ es := EdgesAt.later (by assumption) hv2; have hb2 : Below w3.heap.size w3 V2 := Below.trans (by first | assumption | exact hbd) (hv2.mono (Below.size (by first | assumption | exact hbd))))
        | (go_at_call 14; refine (HDF.out _ _ _ _ _ _ _ _ _ _ _ (by assumption) (by assumption)).mono ?_; rintro e V3 ⟨rfl, hv3⟩; have hb3 : Below w3.heap.size w3 V3 := Below.trans (by first | assumption | exact hbd) (hv3.mono (Below.size (by first | assumption | exact hbd))))))
    all_goals
      go_wp2
      go_ret
      exact ⟨rfl, HFIN.out _ hb3⟩

set_option maxRecDepth 100000 in
/-- What the walk gives, for every argument and every world. -/
theorem contract (H : Type) (enc : TypeId × Value → H) (W : World) (base : Nat) (args : Array Value) (ds gs : List (DataW H)) (before : List MemPlace)
    (hval : ∀ (j : Nat) t v, Try.f4.params[j]? = some t → args[j]? = some v → Value.okWide Try.prog W .any base t v)
    (hW : DataW.Whole enc Try.prog Try.f4.params.toList Rows.dfsForestSpec.vars false W args.toList ds gs before)
    (hsz : (DataW.weightsEach Try.prog (Try.f4.params.toList ++ (OpenSpec.ofChange Rows.dfsForestSpec).bare.plain.varTypes Try.prog) (ds ++ gs)).all (· ≤ reachBytes) = true)
    :
    Calls Try.prog 4 args W fun e W' => ∃ v, e = .returned v ∧ Rows.dfsForestSpec.post enc Try.prog Try.f4 false true false false W args v W' := by
  have hW' := hW
  obtain ⟨p, q, hA0, hV, rfl, hfz, hnd⟩ := hW
  have hA : DataW.TrodAll enc Try.prog W 0 (fun _ => true) true Try.f4.params.toList args.toList ds p := hA0
  rw [Try.params4] at hA hval hsz
  obtain ⟨v0, vs0, d0, ds0, p0, q0, hargs, rfl, rfl, h0, r0⟩ := trodAll_cons hA
  obtain ⟨rfl, rfl, rfl⟩ := trodAll_nil r0
  obtain rfl : args = #[v0] := by cases args; simp_all
  obtain ⟨rfl, rfl⟩ := trodVars_none hV
  have k0 := h0
  have lt0 : ∀ x ∈ p0, x.block < W.heap.size := by obtain ⟨m, hm⟩ := k0; exact DataW.trod_lt m _ _ _ hm
  obtain ⟨n0, a0, cap0, q0, rfl, x0, w0, u0⟩ := graph_of_trod (j := 0) (hval 0 24 v0 rfl rfl) h0 hsz rfl rfl
  clear hA0
  refine (walk n0 a0 cap0 q0 W x0 w0 u0).mono fun e W' ⟨he, bel⟩ => ?_
  subst he
  exact ⟨_, rfl, _, _, _, [], _, [], hW', trodAll_mk1 (shut_bool Try.underlying4 _), (trodAll_cons_mk (Below.trod laidOut (by kernel_rfl) (of_decide_eq_true (by kernel_rfl)) k0 bel lt0) trodAll_mk0), rfl, bel.frame _, fun h => by cases h⟩

theorem laid_met (os : Os) : laidMet Try.prog Rows.dfsForestRow.laid ((settled os).forCall (fun _ _ => 0) ⟨#[], #[.agg #[.int .i64 0, .slice none 0 0]], []⟩).memory :=
  laidMet_of_run' 100 (by kernel_rfl) (by kernel_rfl)
theorem reads (os : Os) {H : Type} (enc : TypeId × Value → H) : ∃ places, DataW.whole enc Try.prog ((settled os).forCall (fun _ _ => 0) ⟨#[], #[.agg #[.int .i64 0, .slice none 0 0]], []⟩).memory Try.f4.params.toList Rows.dfsForestSpec.vars false (#[.agg #[.int .i64 0, .slice none 0 0]] : Array Value).toList 8 = some ([.agg [.lit (.int .i64 0), .nil]], [], places) :=
  ⟨[], by kernel_rfl⟩

set_option maxRecDepth 100000 in
theorem lifted (os : Os) (started : os.Started) (H : Type) (enc : TypeId × Value → H) (F : Stop.Interp) :
    ReturnsInHanded {} Try.checked os 4 .any ((OpenSpec.ofChange Rows.dfsForestSpec).preRow enc Try.prog Try.f4 Rows.dfsForestRow.domain false Rows.dfsForestRow.laid) (((OpenSpec.ofChange Rows.dfsForestSpec).at F).post enc Try.prog Try.f4 false true false false) := by
  obtain ⟨places, hx⟩ := reads os enc
  refine returnsInHanded_of_row (C := Try.checked) (s := (OpenSpec.ofChange Rows.dfsForestSpec)) own started (by kernel_rfl) Try.func4
    (witness_row_at (enc := enc) (C := Try.checked) false (settled os) #[.agg #[.int .i64 0, .slice none 0 0]] rfl (by kernel_rfl) (by kernel_rfl) (by kernel_rfl)
      (OpenSpec.preRow_of_cond 8 hx (by kernel_rfl) (fun k hk => by cases hk) (by kernel_rfl) (laid_met os))) ?_
  intro W base args ds gs before hval hW _ _ hsz _ _ _
  exact contract H enc W base args ds gs before hval hW hsz 

theorem said : Rows.DfsForestSaid :=
  OpenClaim.holds_of_cond 4 Try.f4 rfl rfl rfl rfl rfl rfl rfl ⟨rfl, rfl, rfl, rfl, rfl⟩ rfl rfl rfl rfl rfl (by kernel_rfl) Try.func4 (by kernel_rfl)
    (of_decide_eq_true (by kernel_rfl)) (by unfold Func.isWrapper; first | (rw [if_pos (by decide +kernel)]; kernel_rfl) | (rw [if_neg (by decide +kernel)]; exact ⟨rfl, rfl⟩))
    (fun os started H enc _ F => by rw [OpenClaim.pre_eq_preRow]; exact lifted os started H enc F)

end lawDForest

theorem dfsForest_holds : Rows.DfsForestSaid := lawDForest.said

#print axioms dfsForest_holds
end Go.Proofs.Ytponmjipbcmlhaa
