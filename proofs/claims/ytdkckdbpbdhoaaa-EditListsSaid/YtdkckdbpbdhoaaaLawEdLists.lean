/-
  Proved: for every graph and list the law EditLists answers true, and what is handed in reads afterwards as before. No condition.
-/
import Derived.Test.YtdkckdbpbdhoaaaEdLw
import Derived.Test.YtdkckdbpbdhoaaaEdW5
import Derived.Test.YtdkckdbpbdhoaaaEdW7
import Derived.Test.YtdkckdbpbdhoaaaEdW8
import Derived.Test.YtdkckdbpbdhoaaaEdRa
import Derived.Test.YtdkckdbpbdhoaaaEdRb
import Derived.Test.YtdkckdbpbdhoaaaEdRc
import Derived.Test.YtdkckdbpbdhoaaaEdRd
import Derived.Test.YtdkckdbpbdhoaaaLst
import Derived.Test.YtdkckdbpbdhoaaaSiGin
namespace Go.Proofs.Ytdkckdbpbdhoaaa
open Go.ChangeShapes Go.WideShapes Go.ChangeAt Go.RowKit
namespace lawEL

set_option maxRecDepth 100000 in
set_option maxHeartbeats 16000000 in
theorem walk (n : Int) (ao : Option Addr) (ca : Nat) (es : List (Int × Int)) (lo : Option Addr) (q lc : Nat) (zs : List Int) (w : World) (_ : -9223372036854775808 ≤ n ∧ n ≤ 9223372036854775807) (hq : PairsIn w ao es.length ca es) (hle : es.length * 16 ≤ 140737488351232) (hz : IsRow .i64 8 w lo q lc zs) :
    Calls Try.prog 4 #[.agg #[.int .i64 n, .slice ao es.length ca], .slice lo q lc] w fun e w' => e = .returned (.bool true) ∧ Below w.heap.size w w' := by
  have hfew := hz.few
  have hlst := hz.lst
  obtain ⟨l, hl⟩ : ∃ l, zs.take q = l := ⟨_, rfl⟩
  rw [hl] at hlst
  have hnil : NilOk ao es ca := hq.hnil
  have hat := hq.hat
  have HLST := Nu.hid hlst
  have HAT := Nu.hid hat
  have HCP : Hid (∀ W, Below w.heap.size w W → Calls Try.prog 11 #[.agg #[.int .i64 n, .slice ao es.length ca]] W fun e w' => ∃ a c, e = .returned (.agg #[.int .i64 n, .slice a es.length c]) ∧ OwnE w' W.heap.size (.slice a es.length c) es ∧ Below W.heap.size W w') := fun W hb => rcopy14_any n ao ca es W (hat.later hb) hnil hle
  have HP1 : Hid (∀ a c A C W, EdgesAt W a es → IntsAt W A l → Calls Try.prog 20 #[.agg #[.int .i64 n, .slice a es.length c], .slice A q C] W (AnsP (Ed.sub n es l) W)) := fun a c A C W h h' => esub_any n A q C l a c es W h (by omega) hlst.len h' (by omega)
  have HD1 : Hid (∀ W, Below w.heap.size w W → Calls Try.prog 21 #[.agg #[.int .i64 n, .slice ao es.length ca], .slice lo q lc] W (AnsP (Ed.sub n es l) W)) := fun W hb => rsub_any n lo q lc l ao ca es W (hat.later hb) (by omega) hlst.len (hlst.ints.later hb) (by omega)
  have HP2 : Hid (∀ a c A C W, EdgesAt W a es → IntsAt W A l → Calls Try.prog 22 #[.agg #[.int .i64 n, .slice a es.length c], .slice A q C] W (AnsP (Ed.relabel n es l) W)) := fun a c A C W h h' => erelabel_any n A q C l a c es W h (by omega) hlst.len h' (by omega)
  have HD2 : Hid (∀ W, Below w.heap.size w W → Calls Try.prog 23 #[.agg #[.int .i64 n, .slice ao es.length ca], .slice lo q lc] W (AnsP (Ed.relabel n es l) W)) := fun W hb => rrelabel_any n lo q lc l ao ca es W (hat.later hb) (by omega) hlst.len (hlst.ints.later hb) (by omega)
  have HP3 : Hid (∀ a c A C W, EdgesAt W a es → IntsAt W A l → Calls Try.prog 24 #[.agg #[.int .i64 n, .slice a es.length c], .slice A q C] W (AnsP (Ed.induced n es l) W)) := fun a c A C W h h' => einduced_any n A q C l a c es W h (by omega) hlst.len h' (by omega)
  have HD3 : Hid (∀ W, Below w.heap.size w W → Calls Try.prog 25 #[.agg #[.int .i64 n, .slice ao es.length ca], .slice lo q lc] W (AnsP (Ed.induced n es l) W)) := fun W hb => rinduced_any n lo q lc l ao ca es W (hat.later hb) (by omega) hlst.len (hlst.ints.later hb) (by omega)
  have HP4 : Hid (∀ a c W, EdgesAt W a es → Calls Try.prog 26 #[.agg #[.int .i64 n, .slice a es.length c]] W (BareP (Ed.bare n es) (Ed.bareL n es) W)) := fun a c W h => ebare_any n a c es W h (by omega)
  have HD4 : Hid (∀ W, Below w.heap.size w W → Calls Try.prog 27 #[.agg #[.int .i64 n, .slice ao es.length ca]] W (BareP (Ed.bare n es) (Ed.bareL n es) W)) := fun W hb => rbare_any n ao ca es W (hat.later hb) (by omega)
  obtain ⟨⟨N1, L1, c1⟩, hr1⟩ : ∃ r, Ed.sub n es l = r := ⟨_, rfl⟩
  rw [hr1] at HP1 HD1
  obtain ⟨⟨N2, L2, c2⟩, hr2⟩ : ∃ r, Ed.relabel n es l = r := ⟨_, rfl⟩
  rw [hr2] at HP2 HD2
  obtain ⟨⟨N3, L3, c3⟩, hr3⟩ : ∃ r, Ed.induced n es l = r := ⟨_, rfl⟩
  rw [hr3] at HP3 HD3
  obtain ⟨⟨N4, L4, c4⟩, hr4⟩ : ∃ r, Ed.bare n es = r := ⟨_, rfl⟩
  rw [hr4] at HP4 HD4
  obtain ⟨LB, hrB⟩ : ∃ r, Ed.bareL n es = r := ⟨_, rfl⟩
  have hLB : LB.length ≤ 1048576 := by
    rw [← hrB]
    unfold Ed.bareL
    split
    · simp
    · rename_i hv
      have hv' : Si.valid n es = true := by
        cases h : Si.valid n es
        · exact absurd h hv
        · rfl
      have h1 := (Si.valid_iff.1 hv').hi
      have h2 := Ed.bl_length es n.toNat
      omega
  rw [hrB] at HP4 HD4
  have hB0 : Below w.heap.size w (w.alloc (.cells #[.int .i64 n, .slice ao es.length ca] 24)) := (Below.refl _ _).alloc (Nat.le_refl _) _
  have HB0 := Nu.hid hB0
  have HG0 : Hid ((w.alloc (.cells #[.int .i64 n, .slice ao es.length ca] 24)).heap[w.heap.size]? = some (.cells #[.int .i64 n, .slice ao es.length ca] 24 (0, 0))) := heap_alloc_new w _
  clear hq hat hnil hr1 hr2 hr3 hr4 hrB hB0 hle hz hl hlst
  go_enter Try.func4, Try.ntmps4
  go_wp2_with (go_at_call 9; refine (fixed14_any _).mono ?_; rintro e w1 ⟨rfl, hb⟩; refine Hid.out ?_)
  refine Nu.hid ?_
  have HB := Nu.hid (HB0.out.trans (hb.mono HB0.out.size))
  have HG := Nu.hid (blk_later HG0.out hb)
  clear hb HB0 HG0
  obtain ⟨g0, g1, -⟩ := pair_cells HG.out
  have hsg := lt_of_block HG.out
  go_wp2_with (first
    | (go_at_call 11; refine (HCP.out _ HB.out).mono ?_; rintro e w2 ⟨aw2, cw2, rfl, ho, hba⟩; have hbw : Below w.heap.size w w2 := HB.out.trans (hba.mono HB.out.size); obtain ⟨_, _, e1, _, _, hed, _⟩ := ho.form; cases e1)
    | (at_builtin; refine wpList_copy_lst rfl _ _ rfl _ lo q lc l rfl rfl (HLST.out.later hbw) hfew ?_; refine Hid.out ?_))
  refine Nu.hid ?_
  intro gb gc w3' hrow hgb hgl hgc hbc
  have hint := (row_lst hrow HLST.out.len).ints
  have hedc := hed.later hbc
  have hb := hba.trans (hbc.mono hba.size)
  have hbu := hb
  have HB := Nu.hid (HB.out.trans (hbu.mono HB.out.size))
  have HG := Nu.hid (blk_later HG.out hbu)
  have HED := Nu.hid hedc
  have HIN := Nu.hid hint
  clear ho hba hbc hb hbu hed hedc hint hbw hrow hgb hgl hgc
  clear g0 g1 hsg
  go_wp2_with (go_at_call 20; refine (HP1.out _ _ _ _ _ HED.out HIN.out).mono ?_; rintro e w3 ⟨v, rfl, ho2, hb⟩; refine Hid.out ?_)
  refine Nu.hid ?_
  obtain ⟨va, vc, rfl, -, -, -, -⟩ := ho2.form
  have hbu := hb
  have HB := Nu.hid (HB.out.trans (hbu.mono HB.out.size))
  have HG := Nu.hid (blk_later HG.out hbu)
  have HO := Nu.hid ho2
  clear ho2 hb hbu HED HIN
  try dsimp only at HO
  try dsimp only
  have HGP1 := Nu.hid (Got.new (n := N1) HO.out)
  clear HO
  obtain ⟨g0, g1, -⟩ := pair_cells HG.out
  have hsg := lt_of_block HG.out
  go_wp2_with (go_at_call 21; refine (HD1.out _ (HB.out.alloc HB.out.size _)).mono ?_; rintro e w4 ⟨v, rfl, ho2, hb⟩; refine Hid.out ?_)
  refine Nu.hid ?_
  obtain ⟨ua, uc, rfl, -, -, -, -⟩ := ho2.form
  have hbu : Below w3.heap.size w3 _ := ((Below.refl w3.heap.size w3).alloc (Nat.le_refl _) _).trans (hb.mono (by simp))
  have HGP1 := Nu.hid (HGP1.out.later hb)
  have HB := Nu.hid (HB.out.trans (hbu.mono HB.out.size))
  have HG := Nu.hid (blk_later HG.out hbu)
  have HO := Nu.hid ho2
  clear ho2 hb hbu
  clear g0 g1 hsg
  try dsimp only at HO
  try dsimp only
  have HGD1 := Nu.hid (Got.new (n := N1) HO.out)
  clear HO
  obtain ⟨g0, g1, -⟩ := pair_cells HG.out
  have hsg := lt_of_block HG.out
  go_wp2_with (first
    | (go_at_call 11; refine (HCP.out _ (HB.out.alloc HB.out.size _)).mono ?_; rintro e w5 ⟨aw5, cw5, rfl, ho, hba⟩; have hbw : Below w.heap.size w w5 := (HB.out.alloc HB.out.size _).trans (hba.mono (HB.out.alloc HB.out.size _).size); obtain ⟨_, _, e1, _, _, hed, _⟩ := ho.form; cases e1)
    | (at_builtin; refine wpList_copy_lst rfl _ _ rfl _ lo q lc l rfl rfl (HLST.out.later hbw) hfew ?_; refine Hid.out ?_))
  refine Nu.hid ?_
  intro gb gc w6' hrow hgb hgl hgc hbc
  have hint := (row_lst hrow HLST.out.len).ints
  have hedc := hed.later hbc
  have hb := hba.trans (hbc.mono hba.size)
  have hbu : Below w4.heap.size w4 _ := ((Below.refl w4.heap.size w4).alloc (Nat.le_refl _) _).trans (hb.mono (by simp))
  have HGD1 := Nu.hid (HGD1.out.later hb)
  have HB := Nu.hid (HB.out.trans (hbu.mono HB.out.size))
  have HG := Nu.hid (blk_later HG.out hbu)
  have HGP1 := Nu.hid (HGP1.out.later hbu)
  have HED := Nu.hid hedc
  have HIN := Nu.hid hint
  clear ho hba hbc hb hbu hed hedc hint hbw hrow hgb hgl hgc
  clear g0 g1 hsg
  go_wp2_with (go_at_call 22; refine (HP2.out _ _ _ _ _ HED.out HIN.out).mono ?_; rintro e w6 ⟨v, rfl, ho2, hb⟩; refine Hid.out ?_)
  refine Nu.hid ?_
  obtain ⟨va, vc, rfl, -, -, -, -⟩ := ho2.form
  have hbu := hb
  have HB := Nu.hid (HB.out.trans (hbu.mono HB.out.size))
  have HG := Nu.hid (blk_later HG.out hbu)
  have HGP1 := Nu.hid (HGP1.out.later hbu)
  have HGD1 := Nu.hid (HGD1.out.later hbu)
  have HO := Nu.hid ho2
  clear ho2 hb hbu HED HIN
  try dsimp only at HO
  try dsimp only
  have HGP2 := Nu.hid (Got.new (n := N2) HO.out)
  clear HO
  obtain ⟨g0, g1, -⟩ := pair_cells HG.out
  have hsg := lt_of_block HG.out
  go_wp2_with (go_at_call 23; refine (HD2.out _ (HB.out.alloc HB.out.size _)).mono ?_; rintro e w7 ⟨v, rfl, ho2, hb⟩; refine Hid.out ?_)
  refine Nu.hid ?_
  obtain ⟨ua, uc, rfl, -, -, -, -⟩ := ho2.form
  have hbu : Below w6.heap.size w6 _ := ((Below.refl w6.heap.size w6).alloc (Nat.le_refl _) _).trans (hb.mono (by simp))
  have HGP2 := Nu.hid (HGP2.out.later hb)
  have HB := Nu.hid (HB.out.trans (hbu.mono HB.out.size))
  have HG := Nu.hid (blk_later HG.out hbu)
  have HGP1 := Nu.hid (HGP1.out.later hbu)
  have HGD1 := Nu.hid (HGD1.out.later hbu)
  have HO := Nu.hid ho2
  clear ho2 hb hbu
  clear g0 g1 hsg
  try dsimp only at HO
  try dsimp only
  have HGD2 := Nu.hid (Got.new (n := N2) HO.out)
  clear HO
  obtain ⟨g0, g1, -⟩ := pair_cells HG.out
  have hsg := lt_of_block HG.out
  go_wp2_with (first
    | (go_at_call 11; refine (HCP.out _ (HB.out.alloc HB.out.size _)).mono ?_; rintro e w8 ⟨aw8, cw8, rfl, ho, hba⟩; have hbw : Below w.heap.size w w8 := (HB.out.alloc HB.out.size _).trans (hba.mono (HB.out.alloc HB.out.size _).size); obtain ⟨_, _, e1, _, _, hed, _⟩ := ho.form; cases e1)
    | (at_builtin; refine wpList_copy_lst rfl _ _ rfl _ lo q lc l rfl rfl (HLST.out.later hbw) hfew ?_; refine Hid.out ?_))
  refine Nu.hid ?_
  intro gb gc w9' hrow hgb hgl hgc hbc
  have hint := (row_lst hrow HLST.out.len).ints
  have hedc := hed.later hbc
  have hb := hba.trans (hbc.mono hba.size)
  have hbu : Below w7.heap.size w7 _ := ((Below.refl w7.heap.size w7).alloc (Nat.le_refl _) _).trans (hb.mono (by simp))
  have HGD2 := Nu.hid (HGD2.out.later hb)
  have HB := Nu.hid (HB.out.trans (hbu.mono HB.out.size))
  have HG := Nu.hid (blk_later HG.out hbu)
  have HGP1 := Nu.hid (HGP1.out.later hbu)
  have HGD1 := Nu.hid (HGD1.out.later hbu)
  have HGP2 := Nu.hid (HGP2.out.later hbu)
  have HED := Nu.hid hedc
  have HIN := Nu.hid hint
  clear ho hba hbc hb hbu hed hedc hint hbw hrow hgb hgl hgc
  clear g0 g1 hsg
  go_wp2_with (go_at_call 24; refine (HP3.out _ _ _ _ _ HED.out HIN.out).mono ?_; rintro e w9 ⟨v, rfl, ho2, hb⟩; refine Hid.out ?_)
  refine Nu.hid ?_
  obtain ⟨va, vc, rfl, -, -, -, -⟩ := ho2.form
  have hbu := hb
  have HB := Nu.hid (HB.out.trans (hbu.mono HB.out.size))
  have HG := Nu.hid (blk_later HG.out hbu)
  have HGP1 := Nu.hid (HGP1.out.later hbu)
  have HGD1 := Nu.hid (HGD1.out.later hbu)
  have HGP2 := Nu.hid (HGP2.out.later hbu)
  have HGD2 := Nu.hid (HGD2.out.later hbu)
  have HO := Nu.hid ho2
  clear ho2 hb hbu HED HIN
  try dsimp only at HO
  try dsimp only
  have HGP3 := Nu.hid (Got.new (n := N3) HO.out)
  clear HO
  obtain ⟨g0, g1, -⟩ := pair_cells HG.out
  have hsg := lt_of_block HG.out
  go_wp2_with (go_at_call 25; refine (HD3.out _ (HB.out.alloc HB.out.size _)).mono ?_; rintro e w10 ⟨v, rfl, ho2, hb⟩; refine Hid.out ?_)
  refine Nu.hid ?_
  obtain ⟨ua, uc, rfl, -, -, -, -⟩ := ho2.form
  have hbu : Below w9.heap.size w9 _ := ((Below.refl w9.heap.size w9).alloc (Nat.le_refl _) _).trans (hb.mono (by simp))
  have HGP3 := Nu.hid (HGP3.out.later hb)
  have HB := Nu.hid (HB.out.trans (hbu.mono HB.out.size))
  have HG := Nu.hid (blk_later HG.out hbu)
  have HGP1 := Nu.hid (HGP1.out.later hbu)
  have HGD1 := Nu.hid (HGD1.out.later hbu)
  have HGP2 := Nu.hid (HGP2.out.later hbu)
  have HGD2 := Nu.hid (HGD2.out.later hbu)
  have HO := Nu.hid ho2
  clear ho2 hb hbu
  clear g0 g1 hsg
  try dsimp only at HO
  try dsimp only
  have HGD3 := Nu.hid (Got.new (n := N3) HO.out)
  clear HO
  obtain ⟨g0, g1, -⟩ := pair_cells HG.out
  have hsg := lt_of_block HG.out
  go_wp2_with (first
    | (go_at_call 11; refine (HCP.out _ (HB.out.alloc HB.out.size _)).mono ?_; rintro e w11 ⟨aw11, cw11, rfl, ho, hba⟩; obtain ⟨_, _, e1, _, _, hed, _⟩ := ho.form; cases e1)
    | (go_at_call 26; refine (HP4.out _ _ _ hed).mono ?_; rintro e w12 ⟨v, uu, rfl, ho2, hoz, -, hbb⟩; refine Hid.out ?_))
  refine Nu.hid ?_
  obtain ⟨va, vc, rfl, -, -, -, -⟩ := ho2.form
  obtain ⟨za, zc, rfl, hzi, -⟩ := hoz.form
  have hb := hba.trans (hbb.mono hba.size)
  have hbu : Below w10.heap.size w10 _ := ((Below.refl w10.heap.size w10).alloc (Nat.le_refl _) _).trans (hb.mono (by simp))
  have HGD3 := Nu.hid (HGD3.out.later hb)
  have HB := Nu.hid (HB.out.trans (hbu.mono HB.out.size))
  have HG := Nu.hid (blk_later HG.out hbu)
  have HGP1 := Nu.hid (HGP1.out.later hbu)
  have HGD1 := Nu.hid (HGD1.out.later hbu)
  have HGP2 := Nu.hid (HGP2.out.later hbu)
  have HGD2 := Nu.hid (HGD2.out.later hbu)
  have HGP3 := Nu.hid (HGP3.out.later hbu)
  have HO := Nu.hid ho2
  have HZ1 := Nu.hid hzi
  clear ho ho2 hoz hzi hba hbb hb hbu hed
  clear g0 g1 hsg
  try dsimp only at HO
  try dsimp only
  have HGP4 := Nu.hid (Got.new (n := N4) HO.out)
  clear HO
  obtain ⟨g0, g1, -⟩ := pair_cells HG.out
  have hsg := lt_of_block HG.out
  go_wp2_with (go_at_call 27; refine (HD4.out _ (HB.out.alloc HB.out.size _)).mono ?_; rintro e w13 ⟨v, uu, rfl, ho2, hoz, -, hb⟩; refine Hid.out ?_)
  refine Nu.hid ?_
  obtain ⟨ua, uc, rfl, -, -, -, -⟩ := ho2.form
  obtain ⟨ya, yc, rfl, hzi, -⟩ := hoz.form
  have hbu : Below w12.heap.size w12 _ := ((Below.refl w12.heap.size w12).alloc (Nat.le_refl _) _).trans (hb.mono (by simp))
  have HGP4 := Nu.hid (HGP4.out.later hb)
  have HB := Nu.hid (HB.out.trans (hbu.mono HB.out.size))
  have HG := Nu.hid (blk_later HG.out hbu)
  have HGP1 := Nu.hid (HGP1.out.later hbu)
  have HGD1 := Nu.hid (HGD1.out.later hbu)
  have HGP2 := Nu.hid (HGP2.out.later hbu)
  have HGD2 := Nu.hid (HGD2.out.later hbu)
  have HGP3 := Nu.hid (HGP3.out.later hbu)
  have HGD3 := Nu.hid (HGD3.out.later hbu)
  have HZ1 := Nu.hid (HZ1.out.later hbu)
  have HZ2 := Nu.hid hzi
  clear hoz hzi
  have HO := Nu.hid ho2
  clear ho2 hb hbu
  clear g0 g1 hsg
  try dsimp only at HO
  try dsimp only
  have HGD4 := Nu.hid (Got.new (n := N4) HO.out)
  clear HO
  clear HG
  obtain ⟨HGP10, HGP11⟩ := HGP1.out.cells
  have HGP1l := HGP1.out.lt
  obtain ⟨HGD10, HGD11⟩ := HGD1.out.cells
  have HGD1l := HGD1.out.lt
  obtain ⟨HGP20, HGP21⟩ := HGP2.out.cells
  have HGP2l := HGP2.out.lt
  obtain ⟨HGD20, HGD21⟩ := HGD2.out.cells
  have HGD2l := HGD2.out.lt
  obtain ⟨HGP30, HGP31⟩ := HGP3.out.cells
  have HGP3l := HGP3.out.lt
  obtain ⟨HGD30, HGD31⟩ := HGD3.out.cells
  have HGD3l := HGD3.out.lt
  obtain ⟨HGP40, HGP41⟩ := HGP4.out.cells
  have HGP4l := HGP4.out.lt
  have hbz : Below w13.heap.size w13 (w13.alloc (.cells #[.int .i64 N4, .slice ua L4.length uc] 24)) := (Below.refl _ _).alloc (Nat.le_refl _) _
  have HB := Nu.hid (HB.out.trans (hbz.mono HB.out.size))
  have HGP1 := Nu.hid (HGP1.out.later hbz)
  have HGD1 := Nu.hid (HGD1.out.later hbz)
  have HGP2 := Nu.hid (HGP2.out.later hbz)
  have HGD2 := Nu.hid (HGD2.out.later hbz)
  have HGP3 := Nu.hid (HGP3.out.later hbz)
  have HGD3 := Nu.hid (HGD3.out.later hbz)
  have HGP4 := Nu.hid (HGP4.out.later hbz)
  have HZ1 := Nu.hid (HZ1.out.later hbz)
  have HZ2 := Nu.hid (HZ2.out.later hbz)
  clear hbz
  have HT := Nu.hid (HGP1.out.told HGD1.out c1)
  go_wp2_with (go_at_call 19; refine HT.out.mono ?_; rintro e wt1 ⟨rfl, hb⟩; refine Hid.out ?_)
  refine Nu.hid ?_
  clear HGP10 HGP11 HGP1l HGD10 HGD11 HGD1l HGP20 HGP21 HGP2l HGD20 HGD21 HGD2l HGP30 HGP31 HGP3l HGD30 HGD31 HGD3l HGP40 HGP41 HGP4l
  have HGP1 := Nu.hid (HGP1.out.later hb)
  have HGD1 := Nu.hid (HGD1.out.later hb)
  have HGP2 := Nu.hid (HGP2.out.later hb)
  have HGD2 := Nu.hid (HGD2.out.later hb)
  have HGP3 := Nu.hid (HGP3.out.later hb)
  have HGD3 := Nu.hid (HGD3.out.later hb)
  have HGP4 := Nu.hid (HGP4.out.later hb)
  have HGD4 := Nu.hid (HGD4.out.later hb)
  have HZ1 := Nu.hid (HZ1.out.later hb)
  have HZ2 := Nu.hid (HZ2.out.later hb)
  have HB := Nu.hid (HB.out.trans (hb.mono HB.out.size))
  clear hb HT
  obtain ⟨HGP10, HGP11⟩ := HGP1.out.cells
  have HGP1l := HGP1.out.lt
  obtain ⟨HGD10, HGD11⟩ := HGD1.out.cells
  have HGD1l := HGD1.out.lt
  obtain ⟨HGP20, HGP21⟩ := HGP2.out.cells
  have HGP2l := HGP2.out.lt
  obtain ⟨HGD20, HGD21⟩ := HGD2.out.cells
  have HGD2l := HGD2.out.lt
  obtain ⟨HGP30, HGP31⟩ := HGP3.out.cells
  have HGP3l := HGP3.out.lt
  obtain ⟨HGD30, HGD31⟩ := HGD3.out.cells
  have HGD3l := HGD3.out.lt
  obtain ⟨HGP40, HGP41⟩ := HGP4.out.cells
  have HGP4l := HGP4.out.lt
  obtain ⟨HGD40, HGD41⟩ := HGD4.out.cells
  have HGD4l := HGD4.out.lt
  have HT := Nu.hid (HGP2.out.told HGD2.out c2)
  go_wp2_with (go_at_call 19; refine HT.out.mono ?_; rintro e wt2 ⟨rfl, hb⟩; refine Hid.out ?_)
  refine Nu.hid ?_
  clear HGP10 HGP11 HGP1l HGD10 HGD11 HGD1l HGP20 HGP21 HGP2l HGD20 HGD21 HGD2l HGP30 HGP31 HGP3l HGD30 HGD31 HGD3l HGP40 HGP41 HGP4l HGD40 HGD41 HGD4l
  have HGP1 := Nu.hid (HGP1.out.later hb)
  have HGD1 := Nu.hid (HGD1.out.later hb)
  have HGP2 := Nu.hid (HGP2.out.later hb)
  have HGD2 := Nu.hid (HGD2.out.later hb)
  have HGP3 := Nu.hid (HGP3.out.later hb)
  have HGD3 := Nu.hid (HGD3.out.later hb)
  have HGP4 := Nu.hid (HGP4.out.later hb)
  have HGD4 := Nu.hid (HGD4.out.later hb)
  have HZ1 := Nu.hid (HZ1.out.later hb)
  have HZ2 := Nu.hid (HZ2.out.later hb)
  have HB := Nu.hid (HB.out.trans (hb.mono HB.out.size))
  clear hb HT
  obtain ⟨HGP10, HGP11⟩ := HGP1.out.cells
  have HGP1l := HGP1.out.lt
  obtain ⟨HGD10, HGD11⟩ := HGD1.out.cells
  have HGD1l := HGD1.out.lt
  obtain ⟨HGP20, HGP21⟩ := HGP2.out.cells
  have HGP2l := HGP2.out.lt
  obtain ⟨HGD20, HGD21⟩ := HGD2.out.cells
  have HGD2l := HGD2.out.lt
  obtain ⟨HGP30, HGP31⟩ := HGP3.out.cells
  have HGP3l := HGP3.out.lt
  obtain ⟨HGD30, HGD31⟩ := HGD3.out.cells
  have HGD3l := HGD3.out.lt
  obtain ⟨HGP40, HGP41⟩ := HGP4.out.cells
  have HGP4l := HGP4.out.lt
  obtain ⟨HGD40, HGD41⟩ := HGD4.out.cells
  have HGD4l := HGD4.out.lt
  have HT := Nu.hid (HGP3.out.told HGD3.out c3)
  go_wp2_with (go_at_call 19; refine HT.out.mono ?_; rintro e wt3 ⟨rfl, hb⟩; refine Hid.out ?_)
  refine Nu.hid ?_
  clear HGP10 HGP11 HGP1l HGD10 HGD11 HGD1l HGP20 HGP21 HGP2l HGD20 HGD21 HGD2l HGP30 HGP31 HGP3l HGD30 HGD31 HGD3l HGP40 HGP41 HGP4l HGD40 HGD41 HGD4l
  have HGP1 := Nu.hid (HGP1.out.later hb)
  have HGD1 := Nu.hid (HGD1.out.later hb)
  have HGP2 := Nu.hid (HGP2.out.later hb)
  have HGD2 := Nu.hid (HGD2.out.later hb)
  have HGP3 := Nu.hid (HGP3.out.later hb)
  have HGD3 := Nu.hid (HGD3.out.later hb)
  have HGP4 := Nu.hid (HGP4.out.later hb)
  have HGD4 := Nu.hid (HGD4.out.later hb)
  have HZ1 := Nu.hid (HZ1.out.later hb)
  have HZ2 := Nu.hid (HZ2.out.later hb)
  have HB := Nu.hid (HB.out.trans (hb.mono HB.out.size))
  clear hb HT
  obtain ⟨HGP10, HGP11⟩ := HGP1.out.cells
  have HGP1l := HGP1.out.lt
  obtain ⟨HGD10, HGD11⟩ := HGD1.out.cells
  have HGD1l := HGD1.out.lt
  obtain ⟨HGP20, HGP21⟩ := HGP2.out.cells
  have HGP2l := HGP2.out.lt
  obtain ⟨HGD20, HGD21⟩ := HGD2.out.cells
  have HGD2l := HGD2.out.lt
  obtain ⟨HGP30, HGP31⟩ := HGP3.out.cells
  have HGP3l := HGP3.out.lt
  obtain ⟨HGD30, HGD31⟩ := HGD3.out.cells
  have HGD3l := HGD3.out.lt
  obtain ⟨HGP40, HGP41⟩ := HGP4.out.cells
  have HGP4l := HGP4.out.lt
  obtain ⟨HGD40, HGD41⟩ := HGD4.out.cells
  have HGD4l := HGD4.out.lt
  have HT := Nu.hid (HGP4.out.told HGD4.out c4)
  go_wp2_with (go_at_call 19; refine HT.out.mono ?_; rintro e wt4 ⟨rfl, hb⟩; refine Hid.out ?_)
  refine Nu.hid ?_
  clear HGP10 HGP11 HGP1l HGD10 HGD11 HGD1l HGP20 HGP21 HGP2l HGD20 HGD21 HGD2l HGP30 HGP31 HGP3l HGD30 HGD31 HGD3l HGP40 HGP41 HGP4l HGD40 HGD41 HGD4l
  have HGP1 := Nu.hid (HGP1.out.later hb)
  have HGD1 := Nu.hid (HGD1.out.later hb)
  have HGP2 := Nu.hid (HGP2.out.later hb)
  have HGD2 := Nu.hid (HGD2.out.later hb)
  have HGP3 := Nu.hid (HGP3.out.later hb)
  have HGD3 := Nu.hid (HGD3.out.later hb)
  have HGP4 := Nu.hid (HGP4.out.later hb)
  have HGD4 := Nu.hid (HGD4.out.later hb)
  have HZ1 := Nu.hid (HZ1.out.later hb)
  have HZ2 := Nu.hid (HZ2.out.later hb)
  have HB := Nu.hid (HB.out.trans (hb.mono HB.out.size))
  clear hb HT
  have HAL := Nu.hid (alike_any za ya zc yc LB.length LB.length LB LB wt4 rfl rfl HZ1.out HZ2.out (by omega))
  have hself : decide (LB = LB) = true := by simp
  rw [hself] at HAL
  clear hself
  go_wp2_with (go_at_call 28; refine HAL.out.mono ?_; rintro e w9 ⟨rfl, hb⟩)
  go_ret
  exact ⟨rfl, HB.out.trans (hb.mono HB.out.size)⟩

set_option maxRecDepth 100000 in
/-- What the walk gives, for every argument and every world. -/
theorem contract (H : Type) (enc : TypeId × Value → H) (W : World) (base : Nat) (args : Array Value) (ds gs : List (DataW H)) (before : List MemPlace)
    (hval : ∀ (j : Nat) t v, Try.f4.params[j]? = some t → args[j]? = some v → Value.okWide Try.prog W .any base t v)
    (hW : DataW.Whole enc Try.prog Try.f4.params.toList Rows.editListsSpec.vars false W args.toList ds gs before)
    (hsz : (DataW.weightsEach Try.prog (Try.f4.params.toList ++ (OpenSpec.ofChange Rows.editListsSpec).bare.plain.varTypes Try.prog) (ds ++ gs)).all (· ≤ reachBytes) = true)
    :
    Calls Try.prog 4 args W fun e W' => ∃ v, e = .returned v ∧ Rows.editListsSpec.post enc Try.prog Try.f4 false true false false W args v W' := by
  have hW' := hW
  obtain ⟨p, q, hA0, hV, rfl, hfz, hnd⟩ := hW
  have hA : DataW.TrodAll enc Try.prog W 0 (fun _ => true) true Try.f4.params.toList args.toList ds p := hA0
  rw [Try.params4] at hA hval hsz
  obtain ⟨v0, vs0, d0, ds0, p0, q0, hargs, rfl, rfl, h0, r0⟩ := trodAll_cons hA
  obtain ⟨v1, vs1, d1, ds1, p1, q1, rfl, rfl, rfl, h1, r1⟩ := trodAll_cons r0
  obtain ⟨rfl, rfl, rfl⟩ := trodAll_nil r1
  obtain rfl : args = #[v0, v1] := by cases args; simp_all
  obtain ⟨rfl, rfl⟩ := trodVars_none hV
  have k0 := h0
  have lt0 : ∀ x ∈ p0, x.block < W.heap.size := by obtain ⟨m, hm⟩ := k0; exact DataW.trod_lt m _ _ _ hm
  obtain ⟨n0, a0, cap0, q0, rfl, x0, w0, u0⟩ := graph_of_trod (j := 0) (hval 0 24 v0 rfl rfl) h0 hsz rfl rfl
  obtain ⟨a1, len1, cap1, rfl⟩ := okWide_slice Try.underlying40 (hval 1 40 v1 rfl rfl)
  have k1 := h1
  have lt1 : ∀ x ∈ p1, x.block < W.heap.size := by obtain ⟨m, hm⟩ := k1; exact DataW.trod_lt m _ _ _ hm
  obtain ⟨z1, w1⟩ := IsRow.of_trod (j := 1) Try.underlying40 Try.underlying3 cellsInt bytesInt h1 hsz rfl rfl
  clear hA0
  refine (walk n0 a0 cap0 q0 a1 len1 cap1 z1 W x0 w0 u0 w1).mono fun e W' ⟨he, bel⟩ => ?_
  subst he
  exact ⟨_, rfl, _, _, _, [], _, [], hW', trodAll_mk1 (shut_bool Try.underlying4 _), (trodAll_cons_mk (Below.trod laidOut (by kernel_rfl) (of_decide_eq_true (by kernel_rfl)) k0 bel lt0) (trodAll_cons_mk (Below.trod laidOut (by kernel_rfl) (of_decide_eq_true (by kernel_rfl)) k1 bel lt1) trodAll_mk0)), rfl, bel.frame _, fun h => by cases h⟩

theorem laid_met (os : Os) : laidMet Try.prog Rows.editListsRow.laid ((settled os).forCall (fun _ _ => 0) ⟨#[], #[.agg #[.int .i64 0, .slice none 0 0], .slice none 0 0], []⟩).memory :=
  laidMet_of_run' 100 (by kernel_rfl) (by kernel_rfl)
theorem reads (os : Os) {H : Type} (enc : TypeId × Value → H) : ∃ places, DataW.whole enc Try.prog ((settled os).forCall (fun _ _ => 0) ⟨#[], #[.agg #[.int .i64 0, .slice none 0 0], .slice none 0 0], []⟩).memory Try.f4.params.toList Rows.editListsSpec.vars false (#[.agg #[.int .i64 0, .slice none 0 0], .slice none 0 0] : Array Value).toList 8 = some ([.agg [.lit (.int .i64 0), .nil], .nil], [], places) :=
  ⟨[], by kernel_rfl⟩

set_option maxRecDepth 100000 in
theorem lifted (os : Os) (started : os.Started) (H : Type) (enc : TypeId × Value → H) (F : Stop.Interp) :
    ReturnsInHanded {} Try.checked os 4 .any ((OpenSpec.ofChange Rows.editListsSpec).preRow enc Try.prog Try.f4 Rows.editListsRow.domain false Rows.editListsRow.laid) (((OpenSpec.ofChange Rows.editListsSpec).at F).post enc Try.prog Try.f4 false true false false) := by
  obtain ⟨places, hx⟩ := reads os enc
  refine returnsInHanded_of_row (C := Try.checked) (s := (OpenSpec.ofChange Rows.editListsSpec)) own started (by kernel_rfl) Try.func4
    (witness_row_at (enc := enc) (C := Try.checked) false (settled os) #[.agg #[.int .i64 0, .slice none 0 0], .slice none 0 0] rfl (by kernel_rfl) (by kernel_rfl) (by kernel_rfl)
      (OpenSpec.preRow_of_cond 8 hx (by kernel_rfl) (fun k hk => by cases hk) (by kernel_rfl) (laid_met os))) ?_
  intro W base args ds gs before hval hW _ _ hsz _ _ _
  exact contract H enc W base args ds gs before hval hW hsz 

theorem said : Rows.EditListsSaid :=
  OpenClaim.holds_of_cond 4 Try.f4 rfl rfl rfl rfl rfl rfl rfl ⟨rfl, rfl, rfl, rfl, rfl⟩ rfl rfl rfl rfl rfl (by kernel_rfl) Try.func4 (by kernel_rfl)
    (of_decide_eq_true (by kernel_rfl)) (by unfold Func.isWrapper; first | (rw [if_pos (by decide +kernel)]; kernel_rfl) | (rw [if_neg (by decide +kernel)]; exact ⟨rfl, rfl⟩))
    (fun os started H enc _ F => by rw [OpenClaim.pre_eq_preRow]; exact lifted os started H enc F)

end lawEL

theorem editLists_holds : Rows.EditListsSaid := lawEL.said

#print axioms editLists_holds
end Go.Proofs.Ytdkckdbpbdhoaaa
