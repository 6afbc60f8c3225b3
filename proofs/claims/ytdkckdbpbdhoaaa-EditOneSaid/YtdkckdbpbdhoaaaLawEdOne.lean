/-
  Proved: for every graph, number and edge the law EditOne answers true, and what is handed in reads afterwards as before. No condition.
-/
import Derived.Test.YtdkckdbpbdhoaaaEdLw
import Derived.Test.YtdkckdbpbdhoaaaEdW2
import Derived.Test.YtdkckdbpbdhoaaaEdW3
import Derived.Test.YtdkckdbpbdhoaaaEdW4
import Derived.Test.YtdkckdbpbdhoaaaEdR4
import Derived.Test.YtdkckdbpbdhoaaaEdR5
import Derived.Test.YtdkckdbpbdhoaaaEdR6
import Derived.Test.YtdkckdbpbdhoaaaEdR7
import Derived.Test.YtdkckdbpbdhoaaaSiGin
import Derived.Deep.CutRange
namespace Go.Proofs.Ytdkckdbpbdhoaaa
open Go.ChangeShapes Go.WideShapes Go.ChangeAt Go.RowKit
namespace lawEO

set_option maxRecDepth 100000 in
set_option maxHeartbeats 16000000 in
theorem walk (n : Int) (ao : Option Addr) (ca : Nat) (es : List (Int × Int)) (k : Int) (x : Int × Int) (w : World) (_ : -9223372036854775808 ≤ n ∧ n ≤ 9223372036854775807) (hq : PairsIn w ao es.length ca es) (hle : es.length * 16 ≤ 140737488351232) (_ : (Lit.int .i64 k).wf = true) (_ : In64 x) :
    Calls Try.prog 3 #[.agg #[.int .i64 n, .slice ao es.length ca], .int .i64 k, edgeVal x] w fun e w' => e = .returned (.bool true) ∧ Below w.heap.size w w' := by
  obtain ⟨x1, x2⟩ := x
  unfold edgeVal
  have hfit := hq.hfit
  have hnil : NilOk ao es ca := hq.hnil
  have hat := hq.hat
  have HCP : Hid (∀ W, Below w.heap.size w W → Calls Try.prog 11 #[.agg #[.int .i64 n, .slice ao es.length ca]] W fun e w' => ∃ a c, e = .returned (.agg #[.int .i64 n, .slice a es.length c]) ∧ OwnE w' W.heap.size (.slice a es.length c) es ∧ Below W.heap.size W w') := fun W hb => rcopy14_any n ao ca es W (hat.later hb) hnil hle
  have HP1 : Hid (∀ a c W, EdgesAt W a es → Calls Try.prog 10 #[.agg #[.int .i64 n, .slice a es.length c], .int .i64 k] W (AnsP (Ed.without n es k) W)) := fun a c W h => ewithout_any n k a c es W h (by omega)
  have HD1 : Hid (∀ W, Below w.heap.size w W → Calls Try.prog 12 #[.agg #[.int .i64 n, .slice ao es.length ca], .int .i64 k] W (AnsP (Ed.without n es k) W)) := fun W hb => rwithout_any n k ao ca es W (hat.later hb) hnil (by omega) hfit
  have HP2 : Hid (∀ a c W, EdgesAt W a es → Calls Try.prog 13 #[.agg #[.int .i64 n, .slice a es.length c], .agg #[.int .i64 x1, .int .i64 x2]] W (AnsP (Ed.withE n es (x1, x2)) W)) := fun a c W h => ewith_any n (x1, x2) a c es W h (by omega)
  have HD2 : Hid (∀ W, Below w.heap.size w W → Calls Try.prog 14 #[.agg #[.int .i64 n, .slice ao es.length ca], .agg #[.int .i64 x1, .int .i64 x2]] W (AnsP (Ed.withE n es (x1, x2)) W)) := fun W hb => rwith_any n (x1, x2) ao ca es W (hat.later hb) hnil (by omega)
  have HP3 : Hid (∀ a c W, EdgesAt W a es → Calls Try.prog 15 #[.agg #[.int .i64 n, .slice a es.length c], .int .i64 k] W (AnsP (Ed.divide n es k) W)) := fun a c W h => edivide_any n k a c es W h (by omega)
  have HD3 : Hid (∀ W, Below w.heap.size w W → Calls Try.prog 16 #[.agg #[.int .i64 n, .slice ao es.length ca], .int .i64 k] W (AnsP (Ed.divide n es k) W)) := fun W hb => rdivide_any n k ao ca es W (hat.later hb) hnil (by omega) hfit
  have HP4 : Hid (∀ a c W, EdgesAt W a es → Calls Try.prog 17 #[.agg #[.int .i64 n, .slice a es.length c]] W (AnsP (Ed.apex n es) W)) := fun a c W h => eapex_any n a c es W h (by omega)
  have HD4 : Hid (∀ W, Below w.heap.size w W → Calls Try.prog 18 #[.agg #[.int .i64 n, .slice ao es.length ca]] W (AnsP (Ed.apex n es) W)) := fun W hb => rapex_any n ao ca es W (hat.later hb) hnil (by omega)
  obtain ⟨⟨N1, L1, c1⟩, hr1⟩ : ∃ r, Ed.without n es k = r := ⟨_, rfl⟩
  rw [hr1] at HP1 HD1
  obtain ⟨⟨N2, L2, c2⟩, hr2⟩ : ∃ r, Ed.withE n es (x1, x2) = r := ⟨_, rfl⟩
  rw [hr2] at HP2 HD2
  obtain ⟨⟨N3, L3, c3⟩, hr3⟩ : ∃ r, Ed.divide n es k = r := ⟨_, rfl⟩
  rw [hr3] at HP3 HD3
  obtain ⟨⟨N4, L4, c4⟩, hr4⟩ : ∃ r, Ed.apex n es = r := ⟨_, rfl⟩
  rw [hr4] at HP4 HD4
  have hB0 : Below w.heap.size w ((w.alloc (.cells #[.int .i64 n, .slice ao es.length ca] 24)).alloc (.cells #[.int .i64 x1, .int .i64 x2] 26)) := ((Below.refl _ _).alloc (Nat.le_refl _) _).alloc (by simp) _
  have hG : ((w.alloc (.cells #[.int .i64 n, .slice ao es.length ca] 24)).alloc (.cells #[.int .i64 x1, .int .i64 x2] 26)).heap[w.heap.size]? = some (.cells #[.int .i64 n, .slice ao es.length ca] 24 (0, 0)) := blk_alloc (heap_alloc_new w _) _
  have hX : ((w.alloc (.cells #[.int .i64 n, .slice ao es.length ca] 24)).alloc (.cells #[.int .i64 x1, .int .i64 x2] 26)).heap[w.heap.size + 1]? = some (.cells #[.int .i64 x1, .int .i64 x2] 26 (0, 0)) := heap_new1 w _ _
  have HB0 := Nu.hid hB0
  have HG0 := Nu.hid hG
  have HX0 := Nu.hid hX
  clear hq hat hnil hfit hr1 hr2 hr3 hr4 hB0 hG hX hle
  go_enter Try.func3, Try.ntmps3
  go_wp2_with (go_at_call 9; refine (fixed14_any _).mono ?_; rintro e w1 ⟨rfl, hb⟩; refine Hid.out ?_)
  refine Nu.hid ?_
  have HB := Nu.hid (HB0.out.trans (hb.mono HB0.out.size))
  have HG := Nu.hid (blk_later HG0.out hb)
  have HX := Nu.hid (blk_later HX0.out hb)
  clear hb HB0 HG0 HX0
  obtain ⟨g0, g1, -⟩ := pair_cells HG.out
  obtain ⟨y0, y1, -⟩ := pair_cells HX.out
  have hsg := lt_of_block HG.out
  have hsx := lt_of_block HX.out
  go_wp2_with (first
    | (go_at_call 11; refine (HCP.out _ HB.out).mono ?_; rintro e w2 ⟨aw2, cw2, rfl, ho, hba⟩; obtain ⟨_, _, e1, _, _, hed, _⟩ := ho.form; cases e1)
    | (go_at_call 10; refine (HP1.out _ _ _ hed).mono ?_; rintro e w3 ⟨v, rfl, ho2, hbb⟩; refine Hid.out ?_))
  refine Nu.hid ?_
  obtain ⟨va, vc, rfl, -, -, -, -⟩ := ho2.form
  have hb := hba.trans (hbb.mono hba.size)
  have hbu := hb
  have HB := Nu.hid (HB.out.trans (hbu.mono HB.out.size))
  have HG := Nu.hid (blk_later HG.out hbu)
  have HX := Nu.hid (blk_later HX.out hbu)
  have HO := Nu.hid ho2
  clear ho ho2 hba hbb hb hbu hed
  clear g0 g1 y0 y1 hsg hsx
  try dsimp only at HO
  try dsimp only
  have HGP1 := Nu.hid (Got.new (n := N1) HO.out)
  clear HO
  obtain ⟨g0, g1, -⟩ := pair_cells HG.out
  obtain ⟨y0, y1, -⟩ := pair_cells HX.out
  have hsg := lt_of_block HG.out
  have hsx := lt_of_block HX.out
  go_wp2_with (go_at_call 12; refine (HD1.out _ (HB.out.alloc HB.out.size _)).mono ?_; rintro e w4 ⟨v, rfl, ho2, hb⟩; refine Hid.out ?_)
  refine Nu.hid ?_
  obtain ⟨ua, uc, rfl, -, -, -, -⟩ := ho2.form
  have hbu : Below w3.heap.size w3 _ := ((Below.refl w3.heap.size w3).alloc (Nat.le_refl _) _).trans (hb.mono (by simp))
  have HGP1 := Nu.hid (HGP1.out.later hb)
  have HB := Nu.hid (HB.out.trans (hbu.mono HB.out.size))
  have HG := Nu.hid (blk_later HG.out hbu)
  have HX := Nu.hid (blk_later HX.out hbu)
  have HO := Nu.hid ho2
  clear ho2 hb hbu
  clear g0 g1 y0 y1 hsg hsx
  try dsimp only at HO
  try dsimp only
  have HGD1 := Nu.hid (Got.new (n := N1) HO.out)
  clear HO
  obtain ⟨g0, g1, -⟩ := pair_cells HG.out
  obtain ⟨y0, y1, -⟩ := pair_cells HX.out
  have hsg := lt_of_block HG.out
  have hsx := lt_of_block HX.out
  go_upto_region 5 with fail
  have hbz : Below w4.heap.size w4 (w4.alloc (.cells #[.int .i64 N1, .slice ua L1.length uc] 24)) := (Below.refl _ _).alloc (Nat.le_refl _) _
  have HGD1 := Nu.hid (HGD1.out)
  have HB := Nu.hid (HB.out.trans (hbz.mono HB.out.size))
  have HG := Nu.hid (blk_later HG.out hbz)
  have HX := Nu.hid (blk_later HX.out hbz)
  have HGP1 := Nu.hid (HGP1.out.later hbz)
  clear g0 g1 y0 y1 hsg hsx
  clear hbz
  generalize w4.alloc (.cells #[.int .i64 N1, .slice ua L1.length uc] 24) = wz at HB HG HX HGP1 HGD1 ⊢
  obtain ⟨g0, g1, -⟩ := pair_cells HG.out
  obtain ⟨y0, y1, -⟩ := pair_cells HX.out
  have hsg := lt_of_block HG.out
  have hsx := lt_of_block HX.out
  go_cut [11, 12] from 38 to 45 (fun p q wr => ∃ (H : Nat) (va : Option Addr) (vc : Nat), p = .pointer (some ⟨H, 0, none⟩) ∧ q = .int .i64 c2 ∧ Got wr H N2 L2 va vc ∧ Below wz.heap.size wz wr)
  case first =>
    have HGZ : Hid (∀ V, Below wz.heap.size wz V → V.cell? ⟨w.heap.size, 0, none⟩ = some (.int .i64 n) ∧ V.cell? ⟨w.heap.size, 1, none⟩ = some (.slice ao es.length ca) ∧ V.cell? ⟨w.heap.size + 1, 0, none⟩ = some (.int .i64 x1) ∧ V.cell? ⟨w.heap.size + 1, 1, none⟩ = some (.int .i64 x2)) := fun V hb => ⟨(pair_cells (blk_later HG.out hb)).1, (pair_cells (blk_later HG.out hb)).2.1, (pair_cells (blk_later HX.out hb)).1, (pair_cells (blk_later HX.out hb)).2.1⟩
    go_wp2_with fail
    go_region_held3 (fun w' => w'.cell? ⟨w.heap.size, 0, none⟩ = some (.int .i64 n) ∧ w'.cell? ⟨w.heap.size, 1, none⟩ = some (.slice ao es.length ca) ∧ w'.cell? ⟨w.heap.size + 1, 0, none⟩ = some (.int .i64 x1) ∧ w'.cell? ⟨w.heap.size + 1, 1, none⟩ = some (.int .i64 x2))
      (first | exact ⟨g0, g1, y0, y1⟩ | exact HGZ.out _ (by repeat (first | exact Below.refl _ _ | exact hbb | exact hba | refine Below.drew ?_ | refine Below.setCell ?_ (by first | (simp; done) | (simp; omega)) _ | refine Below.alloc ?_ (by first | exact Nat.le_refl _ | (simp; done) | (simp; omega) | omega) _)))
      (first
        | (go_at_call 11; refine (HCP.out _ (by repeat (first | exact HB.out | refine Below.drew ?_ | refine Below.alloc ?_ (by first | exact Nat.le_of_lt hsg | (simp; omega) | omega) _))).mono ?_; rintro e w5 ⟨aw5, cw5, rfl, ho, hba'⟩; have hba : Below wz.heap.size wz w5 := Below.trans (by repeat (first | exact Below.refl _ _ | refine Below.drew ?_ | refine Below.alloc ?_ (by first | exact Nat.le_refl _ | (simp; done) | (simp; omega)) _)) (hba'.mono (by simp)); (try have hx5 : w5.heap[wz.heap.size]? = some (.cells #[.int .i64 0, .slice none 0 0] 24 (0, 0)) := blk_later (heap_new_drew wz _) hba'); obtain ⟨_, _, e1, _, _, hed, _⟩ := ho.form; cases e1; have hsza : wz.heap.size ≤ w5.heap.size := hba.size)
        | (go_at_call 13; refine (HP2.out _ _ _ (by first | exact hed | exact hed.later ((Below.refl _ _).alloc (Nat.le_refl _) _))).mono ?_; rintro e w6 ⟨v, rfl, ho2, hbb'⟩; have hbb : Below wz.heap.size wz w6 := Below.trans (by repeat (first | exact hba | refine Below.alloc ?_ (by first | exact hsza | (simp; omega)) _)) (hbb'.mono (by first | exact hsza | (simp; omega))); (try have hy6 : w6.heap[wz.heap.size]? = some (.cells #[.int .i64 0, .slice none 0 0] 24 (0, 0)) := blk_later hx5 hbb'); (try have hz6 : w6.heap[w5.heap.size]? = some (.cells #[.int .i64 0, .slice none 0 0] 24 (0, 0)) := blk_later (heap_alloc_new w5 _) hbb'); have hszb : wz.heap.size ≤ w6.heap.size := hbb.size; (try have hq0 := (pair_cells hy6).1); (try have hq1 := (pair_cells hy6).2.1); (try have hq2 := (pair_cells hy6).2.2 0); (try have hq3 := (pair_cells hy6).2.2 1); (try have hp0 := (pair_cells hz6).1); (try have hp1 := (pair_cells hz6).2.1); (try have hp2 := (pair_cells hz6).2.2 0); (try have hp3 := (pair_cells hz6).2.2 1); obtain ⟨va, vc, rfl, -, -, -, -⟩ := ho2.form))
    all_goals
      go_wp2
      go_meet
      first
        | exact ⟨_, _, _, rfl, rfl, Got.new ho2, hbb.alloc hszb _⟩
        | exact ⟨_, _, _, rfl, rfl, Got.set hz6 ho2 (by simp), (hbb.setCell (p := ⟨w5.heap.size, 0, none⟩) hsza _).setCell (p := ⟨w5.heap.size, 1, none⟩) hsza _⟩
        | exact ⟨_, _, _, rfl, rfl, Got.set hy6 ho2 (lt_of_block hx5), (hbb.setCell (p := ⟨wz.heap.size, 0, none⟩) (Nat.le_refl _) _).setCell (p := ⟨wz.heap.size, 1, none⟩) (Nat.le_refl _) _⟩
  case rest =>
  obtain ⟨H2, va, vc, rfl, rfl, hgp, hb⟩ := hcut
  have HGP2 := Nu.hid hgp
  have hbu := hb
  have HB := Nu.hid (HB.out.trans (hbu.mono HB.out.size))
  have HG := Nu.hid (blk_later HG.out hbu)
  have HX := Nu.hid (blk_later HX.out hbu)
  have HGP1 := Nu.hid (HGP1.out.later hbu)
  have HGD1 := Nu.hid (HGD1.out.later hbu)
  clear hb hbu hgp
  clear g0 g1 y0 y1 hsg hsx
  obtain ⟨g0, g1, -⟩ := pair_cells HG.out
  obtain ⟨y0, y1, -⟩ := pair_cells HX.out
  have hsg := lt_of_block HG.out
  have hsx := lt_of_block HX.out
  go_wp2_with (go_at_call 14; refine (HD2.out _ HB.out).mono ?_; rintro e w7 ⟨v, rfl, ho2, hb⟩; refine Hid.out ?_)
  refine Nu.hid ?_
  obtain ⟨ua, uc, rfl, -, -, -, -⟩ := ho2.form
  have hbu := hb
  have HB := Nu.hid (HB.out.trans (hbu.mono HB.out.size))
  have HG := Nu.hid (blk_later HG.out hbu)
  have HX := Nu.hid (blk_later HX.out hbu)
  have HGP1 := Nu.hid (HGP1.out.later hbu)
  have HGD1 := Nu.hid (HGD1.out.later hbu)
  have HGP2 := Nu.hid (HGP2.out.later hbu)
  have HO := Nu.hid ho2
  clear ho2 hb hbu
  clear g0 g1 y0 y1 hsg hsx
  try dsimp only at HO
  try dsimp only
  have HGD2 := Nu.hid (Got.new (n := N2) HO.out)
  clear HO
  obtain ⟨g0, g1, -⟩ := pair_cells HG.out
  obtain ⟨y0, y1, -⟩ := pair_cells HX.out
  have hsg := lt_of_block HG.out
  have hsx := lt_of_block HX.out
  go_wp2_with (first
    | (go_at_call 11; refine (HCP.out _ (HB.out.alloc HB.out.size _)).mono ?_; rintro e w8 ⟨aw8, cw8, rfl, ho, hba⟩; obtain ⟨_, _, e1, _, _, hed, _⟩ := ho.form; cases e1)
    | (go_at_call 15; refine (HP3.out _ _ _ hed).mono ?_; rintro e w9 ⟨v, rfl, ho2, hbb⟩; refine Hid.out ?_))
  refine Nu.hid ?_
  obtain ⟨va, vc, rfl, -, -, -, -⟩ := ho2.form
  have hb := hba.trans (hbb.mono hba.size)
  have hbu : Below w7.heap.size w7 _ := ((Below.refl w7.heap.size w7).alloc (Nat.le_refl _) _).trans (hb.mono (by simp))
  have HGD2 := Nu.hid (HGD2.out.later hb)
  have HB := Nu.hid (HB.out.trans (hbu.mono HB.out.size))
  have HG := Nu.hid (blk_later HG.out hbu)
  have HX := Nu.hid (blk_later HX.out hbu)
  have HGP1 := Nu.hid (HGP1.out.later hbu)
  have HGD1 := Nu.hid (HGD1.out.later hbu)
  have HGP2 := Nu.hid (HGP2.out.later hbu)
  have HO := Nu.hid ho2
  clear ho ho2 hba hbb hb hbu hed
  clear g0 g1 y0 y1 hsg hsx
  try dsimp only at HO
  try dsimp only
  have HGP3 := Nu.hid (Got.new (n := N3) HO.out)
  clear HO
  obtain ⟨g0, g1, -⟩ := pair_cells HG.out
  obtain ⟨y0, y1, -⟩ := pair_cells HX.out
  have hsg := lt_of_block HG.out
  have hsx := lt_of_block HX.out
  go_wp2_with (go_at_call 16; refine (HD3.out _ (HB.out.alloc HB.out.size _)).mono ?_; rintro e w10 ⟨v, rfl, ho2, hb⟩; refine Hid.out ?_)
  refine Nu.hid ?_
  obtain ⟨ua, uc, rfl, -, -, -, -⟩ := ho2.form
  have hbu : Below w9.heap.size w9 _ := ((Below.refl w9.heap.size w9).alloc (Nat.le_refl _) _).trans (hb.mono (by simp))
  have HGP3 := Nu.hid (HGP3.out.later hb)
  have HB := Nu.hid (HB.out.trans (hbu.mono HB.out.size))
  have HG := Nu.hid (blk_later HG.out hbu)
  have HX := Nu.hid (blk_later HX.out hbu)
  have HGP1 := Nu.hid (HGP1.out.later hbu)
  have HGD1 := Nu.hid (HGD1.out.later hbu)
  have HGP2 := Nu.hid (HGP2.out.later hbu)
  have HGD2 := Nu.hid (HGD2.out.later hbu)
  have HO := Nu.hid ho2
  clear ho2 hb hbu
  clear g0 g1 y0 y1 hsg hsx
  try dsimp only at HO
  try dsimp only
  have HGD3 := Nu.hid (Got.new (n := N3) HO.out)
  clear HO
  obtain ⟨g0, g1, -⟩ := pair_cells HG.out
  obtain ⟨y0, y1, -⟩ := pair_cells HX.out
  have hsg := lt_of_block HG.out
  have hsx := lt_of_block HX.out
  go_wp2_with (first
    | (go_at_call 11; refine (HCP.out _ (HB.out.alloc HB.out.size _)).mono ?_; rintro e w11 ⟨aw11, cw11, rfl, ho, hba⟩; obtain ⟨_, _, e1, _, _, hed, _⟩ := ho.form; cases e1)
    | (go_at_call 17; refine (HP4.out _ _ _ hed).mono ?_; rintro e w12 ⟨v, rfl, ho2, hbb⟩; refine Hid.out ?_))
  refine Nu.hid ?_
  obtain ⟨va, vc, rfl, -, -, -, -⟩ := ho2.form
  have hb := hba.trans (hbb.mono hba.size)
  have hbu : Below w10.heap.size w10 _ := ((Below.refl w10.heap.size w10).alloc (Nat.le_refl _) _).trans (hb.mono (by simp))
  have HGD3 := Nu.hid (HGD3.out.later hb)
  have HB := Nu.hid (HB.out.trans (hbu.mono HB.out.size))
  have HG := Nu.hid (blk_later HG.out hbu)
  have HX := Nu.hid (blk_later HX.out hbu)
  have HGP1 := Nu.hid (HGP1.out.later hbu)
  have HGD1 := Nu.hid (HGD1.out.later hbu)
  have HGP2 := Nu.hid (HGP2.out.later hbu)
  have HGD2 := Nu.hid (HGD2.out.later hbu)
  have HGP3 := Nu.hid (HGP3.out.later hbu)
  have HO := Nu.hid ho2
  clear ho ho2 hba hbb hb hbu hed
  clear g0 g1 y0 y1 hsg hsx
  try dsimp only at HO
  try dsimp only
  have HGP4 := Nu.hid (Got.new (n := N4) HO.out)
  clear HO
  obtain ⟨g0, g1, -⟩ := pair_cells HG.out
  obtain ⟨y0, y1, -⟩ := pair_cells HX.out
  have hsg := lt_of_block HG.out
  have hsx := lt_of_block HX.out
  go_wp2_with (go_at_call 18; refine (HD4.out _ (HB.out.alloc HB.out.size _)).mono ?_; rintro e w13 ⟨v, rfl, ho2, hb⟩; refine Hid.out ?_)
  refine Nu.hid ?_
  obtain ⟨ua, uc, rfl, -, -, -, -⟩ := ho2.form
  have hbu : Below w12.heap.size w12 _ := ((Below.refl w12.heap.size w12).alloc (Nat.le_refl _) _).trans (hb.mono (by simp))
  have HGP4 := Nu.hid (HGP4.out.later hb)
  have HB := Nu.hid (HB.out.trans (hbu.mono HB.out.size))
  have HG := Nu.hid (blk_later HG.out hbu)
  have HX := Nu.hid (blk_later HX.out hbu)
  have HGP1 := Nu.hid (HGP1.out.later hbu)
  have HGD1 := Nu.hid (HGD1.out.later hbu)
  have HGP2 := Nu.hid (HGP2.out.later hbu)
  have HGD2 := Nu.hid (HGD2.out.later hbu)
  have HGP3 := Nu.hid (HGP3.out.later hbu)
  have HGD3 := Nu.hid (HGD3.out.later hbu)
  have HO := Nu.hid ho2
  clear ho2 hb hbu
  clear g0 g1 y0 y1 hsg hsx
  try dsimp only at HO
  try dsimp only
  have HGD4 := Nu.hid (Got.new (n := N4) HO.out)
  clear HO
  clear HG HX
  obtain ⟨HGP10, HGP11⟩ := HGP1.out.cells
  have HGP1l := HGP1.out.lt
  obtain ⟨HGD10, HGD11⟩ := HGD1.out.cells
  have HGD1l := HGD1.out.lt
  obtain ⟨HGP20, HGP21⟩ := HGP2.out.cells
  have HGP2l := HGP2.out.lt
  obtain ⟨HGD20, HGD21⟩ := HGD2.out.cells
  have HGD2l := HGD2.out.lt
  obtain ⟨HGP30, HGP31⟩ := HGP3.out.cells
  have HGP3l := HGP3.out.lt
  obtain ⟨HGD30, HGD31⟩ := HGD3.out.cells
  have HGD3l := HGD3.out.lt
  obtain ⟨HGP40, HGP41⟩ := HGP4.out.cells
  have HGP4l := HGP4.out.lt
  have hbz : Below w13.heap.size w13 (w13.alloc (.cells #[.int .i64 N4, .slice ua L4.length uc] 24)) := (Below.refl _ _).alloc (Nat.le_refl _) _
  have HB := Nu.hid (HB.out.trans (hbz.mono HB.out.size))
  have HGP1 := Nu.hid (HGP1.out.later hbz)
  have HGD1 := Nu.hid (HGD1.out.later hbz)
  have HGP2 := Nu.hid (HGP2.out.later hbz)
  have HGD2 := Nu.hid (HGD2.out.later hbz)
  have HGP3 := Nu.hid (HGP3.out.later hbz)
  have HGD3 := Nu.hid (HGD3.out.later hbz)
  have HGP4 := Nu.hid (HGP4.out.later hbz)
  clear hbz
  have HT := Nu.hid (HGP1.out.told HGD1.out c1)
  go_wp2_with (go_at_call 19; refine HT.out.mono ?_; rintro e wt1 ⟨rfl, hb⟩; refine Hid.out ?_)
  refine Nu.hid ?_
  clear HGP10 HGP11 HGP1l HGD10 HGD11 HGD1l HGP20 HGP21 HGP2l HGD20 HGD21 HGD2l HGP30 HGP31 HGP3l HGD30 HGD31 HGD3l HGP40 HGP41 HGP4l
  have HGP1 := Nu.hid (HGP1.out.later hb)
  have HGD1 := Nu.hid (HGD1.out.later hb)
  have HGP2 := Nu.hid (HGP2.out.later hb)
  have HGD2 := Nu.hid (HGD2.out.later hb)
  have HGP3 := Nu.hid (HGP3.out.later hb)
  have HGD3 := Nu.hid (HGD3.out.later hb)
  have HGP4 := Nu.hid (HGP4.out.later hb)
  have HGD4 := Nu.hid (HGD4.out.later hb)
  have HB := Nu.hid (HB.out.trans (hb.mono HB.out.size))
  clear hb HT
  obtain ⟨HGP10, HGP11⟩ := HGP1.out.cells
  have HGP1l := HGP1.out.lt
  obtain ⟨HGD10, HGD11⟩ := HGD1.out.cells
  have HGD1l := HGD1.out.lt
  obtain ⟨HGP20, HGP21⟩ := HGP2.out.cells
  have HGP2l := HGP2.out.lt
  obtain ⟨HGD20, HGD21⟩ := HGD2.out.cells
  have HGD2l := HGD2.out.lt
  obtain ⟨HGP30, HGP31⟩ := HGP3.out.cells
  have HGP3l := HGP3.out.lt
  obtain ⟨HGD30, HGD31⟩ := HGD3.out.cells
  have HGD3l := HGD3.out.lt
  obtain ⟨HGP40, HGP41⟩ := HGP4.out.cells
  have HGP4l := HGP4.out.lt
  obtain ⟨HGD40, HGD41⟩ := HGD4.out.cells
  have HGD4l := HGD4.out.lt
  have HT := Nu.hid (HGP2.out.told HGD2.out c2)
  go_wp2_with (go_at_call 19; refine HT.out.mono ?_; rintro e wt2 ⟨rfl, hb⟩; refine Hid.out ?_)
  refine Nu.hid ?_
  clear HGP10 HGP11 HGP1l HGD10 HGD11 HGD1l HGP20 HGP21 HGP2l HGD20 HGD21 HGD2l HGP30 HGP31 HGP3l HGD30 HGD31 HGD3l HGP40 HGP41 HGP4l HGD40 HGD41 HGD4l
  have HGP1 := Nu.hid (HGP1.out.later hb)
  have HGD1 := Nu.hid (HGD1.out.later hb)
  have HGP2 := Nu.hid (HGP2.out.later hb)
  have HGD2 := Nu.hid (HGD2.out.later hb)
  have HGP3 := Nu.hid (HGP3.out.later hb)
  have HGD3 := Nu.hid (HGD3.out.later hb)
  have HGP4 := Nu.hid (HGP4.out.later hb)
  have HGD4 := Nu.hid (HGD4.out.later hb)
  have HB := Nu.hid (HB.out.trans (hb.mono HB.out.size))
  clear hb HT
  obtain ⟨HGP10, HGP11⟩ := HGP1.out.cells
  have HGP1l := HGP1.out.lt
  obtain ⟨HGD10, HGD11⟩ := HGD1.out.cells
  have HGD1l := HGD1.out.lt
  obtain ⟨HGP20, HGP21⟩ := HGP2.out.cells
  have HGP2l := HGP2.out.lt
  obtain ⟨HGD20, HGD21⟩ := HGD2.out.cells
  have HGD2l := HGD2.out.lt
  obtain ⟨HGP30, HGP31⟩ := HGP3.out.cells
  have HGP3l := HGP3.out.lt
  obtain ⟨HGD30, HGD31⟩ := HGD3.out.cells
  have HGD3l := HGD3.out.lt
  obtain ⟨HGP40, HGP41⟩ := HGP4.out.cells
  have HGP4l := HGP4.out.lt
  obtain ⟨HGD40, HGD41⟩ := HGD4.out.cells
  have HGD4l := HGD4.out.lt
  have HT := Nu.hid (HGP3.out.told HGD3.out c3)
  go_wp2_with (go_at_call 19; refine HT.out.mono ?_; rintro e wt3 ⟨rfl, hb⟩; refine Hid.out ?_)
  refine Nu.hid ?_
  clear HGP10 HGP11 HGP1l HGD10 HGD11 HGD1l HGP20 HGP21 HGP2l HGD20 HGD21 HGD2l HGP30 HGP31 HGP3l HGD30 HGD31 HGD3l HGP40 HGP41 HGP4l HGD40 HGD41 HGD4l
  have HGP1 := Nu.hid (HGP1.out.later hb)
  have HGD1 := Nu.hid (HGD1.out.later hb)
  have HGP2 := Nu.hid (HGP2.out.later hb)
  have HGD2 := Nu.hid (HGD2.out.later hb)
  have HGP3 := Nu.hid (HGP3.out.later hb)
  have HGD3 := Nu.hid (HGD3.out.later hb)
  have HGP4 := Nu.hid (HGP4.out.later hb)
  have HGD4 := Nu.hid (HGD4.out.later hb)
  have HB := Nu.hid (HB.out.trans (hb.mono HB.out.size))
  clear hb HT
  obtain ⟨HGP10, HGP11⟩ := HGP1.out.cells
  have HGP1l := HGP1.out.lt
  obtain ⟨HGD10, HGD11⟩ := HGD1.out.cells
  have HGD1l := HGD1.out.lt
  obtain ⟨HGP20, HGP21⟩ := HGP2.out.cells
  have HGP2l := HGP2.out.lt
  obtain ⟨HGD20, HGD21⟩ := HGD2.out.cells
  have HGD2l := HGD2.out.lt
  obtain ⟨HGP30, HGP31⟩ := HGP3.out.cells
  have HGP3l := HGP3.out.lt
  obtain ⟨HGD30, HGD31⟩ := HGD3.out.cells
  have HGD3l := HGD3.out.lt
  obtain ⟨HGP40, HGP41⟩ := HGP4.out.cells
  have HGP4l := HGP4.out.lt
  obtain ⟨HGD40, HGD41⟩ := HGD4.out.cells
  have HGD4l := HGD4.out.lt
  have HT := Nu.hid (HGP4.out.told HGD4.out c4)
  go_wp2_with (go_at_call 19; refine HT.out.mono ?_; rintro e wt4 ⟨rfl, hb⟩)
  go_ret
  exact ⟨rfl, HB.out.trans (hb.mono HB.out.size)⟩

set_option maxRecDepth 100000 in
/-- What the walk gives, for every argument and every world. -/
theorem contract (H : Type) (enc : TypeId × Value → H) (W : World) (base : Nat) (args : Array Value) (ds gs : List (DataW H)) (before : List MemPlace)
    (hval : ∀ (j : Nat) t v, Try.f3.params[j]? = some t → args[j]? = some v → Value.okWide Try.prog W .any base t v)
    (hW : DataW.Whole enc Try.prog Try.f3.params.toList Rows.editOneSpec.vars false W args.toList ds gs before)
    (hsz : (DataW.weightsEach Try.prog (Try.f3.params.toList ++ (OpenSpec.ofChange Rows.editOneSpec).bare.plain.varTypes Try.prog) (ds ++ gs)).all (· ≤ reachBytes) = true)
    :
    Calls Try.prog 3 args W fun e W' => ∃ v, e = .returned v ∧ Rows.editOneSpec.post enc Try.prog Try.f3 false true false false W args v W' := by
  have hW' := hW
  obtain ⟨p, q, hA0, hV, rfl, hfz, hnd⟩ := hW
  have hA : DataW.TrodAll enc Try.prog W 0 (fun _ => true) true Try.f3.params.toList args.toList ds p := hA0
  rw [Try.params3] at hA hval hsz
  obtain ⟨v0, vs0, d0, ds0, p0, q0, hargs, rfl, rfl, h0, r0⟩ := trodAll_cons hA
  obtain ⟨v1, vs1, d1, ds1, p1, q1, rfl, rfl, rfl, h1, r1⟩ := trodAll_cons r0
  obtain ⟨v2, vs2, d2, ds2, p2, q2, rfl, rfl, rfl, h2, r2⟩ := trodAll_cons r1
  obtain ⟨rfl, rfl, rfl⟩ := trodAll_nil r2
  obtain rfl : args = #[v0, v1, v2] := by cases args; simp_all
  obtain ⟨rfl, rfl⟩ := trodVars_none hV
  have k0 := h0
  have lt0 : ∀ x ∈ p0, x.block < W.heap.size := by obtain ⟨m, hm⟩ := k0; exact DataW.trod_lt m _ _ _ hm
  obtain ⟨n0, a0, cap0, q0, rfl, x0, w0, u0⟩ := graph_of_trod (j := 0) (hval 0 24 v0 rfl rfl) h0 hsz rfl rfl
  obtain ⟨a1, rfl, rfl, rfl, w1⟩ := open_int Try.underlying3 (hval 1 3 v1 rfl rfl) h1
  have k2 := h2
  have lt2 : ∀ x ∈ p2, x.block < W.heap.size := by obtain ⟨m, hm⟩ := k2; exact DataW.trod_lt m _ _ _ hm
  obtain ⟨q2, rfl, w2⟩ := edge_of_trod (hval 2 26 v2 rfl rfl) h2
  clear hA0
  refine (walk n0 a0 cap0 q0 a1 q2 W x0 w0 u0 w1 w2).mono fun e W' ⟨he, bel⟩ => ?_
  subst he
  exact ⟨_, rfl, _, _, _, [], _, [], hW', trodAll_mk1 (shut_bool Try.underlying4 _), (trodAll_cons_mk (Below.trod laidOut (by kernel_rfl) (of_decide_eq_true (by kernel_rfl)) k0 bel lt0) (trodAll_cons_mk (shut_int Try.underlying3 w1) (trodAll_cons_mk (Below.trod laidOut (by kernel_rfl) (of_decide_eq_true (by kernel_rfl)) k2 bel lt2) trodAll_mk0))), rfl, bel.frame _, fun h => by cases h⟩

theorem laid_met (os : Os) : laidMet Try.prog Rows.editOneRow.laid ((settled os).forCall (fun _ _ => 0) ⟨#[], #[.agg #[.int .i64 0, .slice none 0 0], .int .i64 0, .agg #[.int .i64 0, .int .i64 0]], []⟩).memory :=
  laidMet_of_run' 100 (by kernel_rfl) (by kernel_rfl)
theorem reads (os : Os) {H : Type} (enc : TypeId × Value → H) : ∃ places, DataW.whole enc Try.prog ((settled os).forCall (fun _ _ => 0) ⟨#[], #[.agg #[.int .i64 0, .slice none 0 0], .int .i64 0, .agg #[.int .i64 0, .int .i64 0]], []⟩).memory Try.f3.params.toList Rows.editOneSpec.vars false (#[.agg #[.int .i64 0, .slice none 0 0], .int .i64 0, .agg #[.int .i64 0, .int .i64 0]] : Array Value).toList 8 = some ([.agg [.lit (.int .i64 0), .nil], .lit (.int .i64 0), .agg [.lit (.int .i64 0), .lit (.int .i64 0)]], [], places) :=
  ⟨[], by kernel_rfl⟩

set_option maxRecDepth 100000 in
theorem lifted (os : Os) (started : os.Started) (H : Type) (enc : TypeId × Value → H) (F : Stop.Interp) :
    ReturnsInHanded {} Try.checked os 3 .any ((OpenSpec.ofChange Rows.editOneSpec).preRow enc Try.prog Try.f3 Rows.editOneRow.domain false Rows.editOneRow.laid) (((OpenSpec.ofChange Rows.editOneSpec).at F).post enc Try.prog Try.f3 false true false false) := by
  obtain ⟨places, hx⟩ := reads os enc
  refine returnsInHanded_of_row (C := Try.checked) (s := (OpenSpec.ofChange Rows.editOneSpec)) own started (by kernel_rfl) Try.func3
    (witness_row_at (enc := enc) (C := Try.checked) false (settled os) #[.agg #[.int .i64 0, .slice none 0 0], .int .i64 0, .agg #[.int .i64 0, .int .i64 0]] rfl (by kernel_rfl) (by kernel_rfl) (by kernel_rfl)
      (OpenSpec.preRow_of_cond 8 hx (by kernel_rfl) (fun k hk => by cases hk) (by kernel_rfl) (laid_met os))) ?_
  intro W base args ds gs before hval hW _ _ hsz _ _ _
  exact contract H enc W base args ds gs before hval hW hsz 

theorem said : Rows.EditOneSaid :=
  OpenClaim.holds_of_cond 3 Try.f3 rfl rfl rfl rfl rfl rfl rfl ⟨rfl, rfl, rfl, rfl, rfl⟩ rfl rfl rfl rfl rfl (by kernel_rfl) Try.func3 (by kernel_rfl)
    (of_decide_eq_true (by kernel_rfl)) (by unfold Func.isWrapper; first | (rw [if_pos (by decide +kernel)]; kernel_rfl) | (rw [if_neg (by decide +kernel)]; exact ⟨rfl, rfl⟩))
    (fun os started H enc _ F => by rw [OpenClaim.pre_eq_preRow]; exact lifted os started H enc F)

end lawEO

theorem editOne_holds : Rows.EditOneSaid := lawEO.said

#print axioms editOne_holds
end Go.Proofs.Ytdkckdbpbdhoaaa
