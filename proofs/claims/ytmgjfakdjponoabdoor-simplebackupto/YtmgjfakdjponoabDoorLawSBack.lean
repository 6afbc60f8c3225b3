/-
  Proved: for every graph and every two lists of ints, up to the second form's bound, the law SimpleBack answers true, and all reads afterwards as before.
-/
import Derived.Test.YtmgjfakdjponoabDoorSiOpen
import Derived.Test.YtmgjfakdjponoabDoorKinInts
import Derived.Test.YtmgjfakdjponoabDoorSiWakes
import Derived.Test.YtmgjfakdjponoabDoorSiSame
import Derived.Test.YtmgjfakdjponoabDoorSiRPairs
import Derived.Test.YtmgjfakdjponoabDoorSiTwo
import Derived.Test.YtmgjfakdjponoabDoorSiText
import Derived.Test.YtmgjfakdjponoabDoorSiRText
import Derived.Test.YtmgjfakdjponoabDoorSiRead
import Derived.Test.YtmgjfakdjponoabDoorChainB
import Derived.BigRegion
import Derived.BigQuiet
import Derived.Lib.AtoiErrMem
import Derived.Deep.CutBlock
import Derived.Deep.CutRange
namespace Go.Proofs.YtmgjfakdjponoabDoor
open Go.ChangeShapes Go.WideShapes Go.ChangeAt Go.RowKit

namespace lawSBack

theorem own_snoc {w : World} {B m : Nat} {v : Value} {ps : List (Int × Int)} {p : Int × Int} (hm : ps.length = m) (h : w.ownsRow B 34 2 v (m + 1) (flatE ps ++ [.int .i64 p.1, .int .i64 p.2])) : OwnP w B v (ps ++ [p]) := by
  subst hm
  unfold OwnP
  rw [flatE_snoc, List.length_append]
  exact h

theorem below_drewN {B : Nat} {a w : World} (h : Below B a w) (k : Nat) : Below B a (w.drewN k) := ⟨h.os, h.tape, h.output, h.size, h.block⟩

theorem kept1 {w : World} {b : Nat} {o : Obj} (A : Obj) (h : w.heap[b]? = some o) : (w.alloc A).heap[b]? = some o := by
  rw [Below.heap_alloc _ _ _ (lt_of_block h)]
  exact h

theorem text_is {n : Int} {es : List (Int × Int)} (hv : Si.valid n es = true) : Si.text n es = ([], 141) ∨ (Si.text n es = (Pa.body ((n, (es.length : Int)) :: es), 0) ∧ es.length ≤ 2097152 ∧ (Pa.body ((n, (es.length : Int)) :: es)).length ≤ 16777216) := by
  unfold Si.text
  rw [if_pos hv]
  split
  · exact .inl rfl
  · split
    · exact .inl rfl
    · exact .inr ⟨rfl, by omega, by omega⟩

theorem tm (x : Int) {m : Nat} (hm : 0 < m) (hm' : m ≤ 4611686018427387904) : ∃ K : Nat, ((x.tmod (m : Int) = (K : Int) ∧ ¬ (x.tmod (m : Int) < 0)) ∨ (wrap64 (-x.tmod (m : Int)) = (K : Int) ∧ x.tmod (m : Int) < 0)) ∧ K < m := by
  have h1 := Int.tmod_lt_of_pos x (show (0 : Int) < (m : Int) by omega)
  have h2 : -(m : Int) < x.tmod (m : Int) := by
    have := Int.tmod_lt_of_pos (-x) (show (0 : Int) < (m : Int) by omega)
    rw [Int.neg_tmod] at this
    omega
  by_cases h : x.tmod (m : Int) < 0
  · exact ⟨(-(x.tmod (m : Int))).toNat, .inr ⟨by unfold wrap64; omega, h⟩, by omega⟩
  · exact ⟨(x.tmod (m : Int)).toNat, .inl ⟨by omega, h⟩, by omega⟩

set_option maxRecDepth 100000 in
set_option maxHeartbeats 16000000 in
theorem walk (n : Int) (ao : Option Addr) (ca : Nat) (es : List (Int × Int)) (a1 : Option Addr) (len1 cap1 : Nat) (z1 : List Int) (a2 : Option Addr) (len2 cap2 : Nat) (z2 : List Int) (w : World) (_ : -9223372036854775808 ≤ n ∧ n ≤ 9223372036854775807) (hq : PairsIn w ao es.length ca es) (hle : es.length * 16 ≤ 140737488351232)
    (hr1 : IsRow .i64 8 w a1 len1 cap1 z1) (hr2 : IsRow .i64 8 w a2 len2 cap2 z2) (hl1 : len1 ≤ 1048576) (hl2 : len2 ≤ 1048576) (ht : Tab w) :
    Calls Tryd.prog 3 #[.agg #[.int .i64 n, .slice ao es.length ca], .slice a1 len1 cap1, .slice a2 len2 cap2] w fun e w' => e = .returned (.bool true) ∧ Below w.heap.size w w' := by
  obtain ⟨i0, hi, hz0, hz1, hz2⟩ := info_parts Tryd.infoTwo
  have HQ := Nu.hid hq
  have HTAB := Nu.hid ht
  have HR1 := Nu.hid hr1
  have HR2 := Nu.hid hr2
  clear hq ht hr1 hr2
  have hbw0 : Below w.heap.size w (w.alloc (.cells #[.int .i64 n, .slice ao es.length ca] 24)) := (Below.refl _ _).alloc (Nat.le_refl _) _
  have HB0 := Nu.hid hbw0
  clear hbw0
  have HG0 := Nu.hid (heap_alloc_new w (.cells #[.int .i64 n, .slice ao es.length ca] 24))
  have hs0 := lt_of_block HG0.out
  have hpv : ∀ (a : Option Addr) (c : Nat) (W : World), EdgesAt W a es → Calls Tryd.prog 6 #[.agg #[.int .i64 n, .slice a es.length c]] W fun e w' => e = .returned (.bool (Si.valid n es)) ∧ Below W.heap.size W w' := fun a c W hE => valid_any n a c es W hE (by omega)
  have hpt : ∀ (a : Option Addr) (c : Nat) (W : World), EdgesAt W a es → Tab W → Calls Tryd.prog 8 #[.agg #[.int .i64 n, .slice a es.length c]] W fun e w' => e = .returned (.tuple #[.string ⟨(Si.text n es).1.toArray⟩, .int .i64 (Si.text n es).2]) ∧ Below W.heap.size W w' := fun a c W hE hT => text_any n a c es W hE (by omega) hT
  cases hv : Si.valid n es with
  | false =>
    have htx : Si.text n es = ([], 1) := by unfold Si.text; rw [hv]; rfl
    rw [hv] at hpv
    rw [htx] at hpt
    have HPV := Nu.hid hpv
    have HPT := Nu.hid hpt
    clear hpv hpt hv htx
    go_enter Tryd.func3, Tryd.ntmps3
    go_wp2_with (go_at_call 5; refine (wakes_any _ (HTAB.out.below HB0.out)).mono ?_; rintro e w1 ⟨rfl, hb⟩; refine Hid.out ?_)
    refine Nu.hid ?_
    have hG1 := (hb.block _ hs0).trans HG0.out
    obtain ⟨x0, x1, -⟩ := pair_cells hG1
    have hs1 := lt_of_block hG1
    have HB1 := Nu.hid (HB0.out.trans (hb.mono HB0.out.size))
    have HG1 := Nu.hid hG1
    clear hb hG1
    go_wp2_with (go_at_call 7; refine (rcopy_any n ao ca es _ (HQ.out.hat.later HB1.out) (by omega)).mono ?_; rintro e w2 ⟨v, rfl, hown, hb⟩; obtain ⟨a, c, rfl, _, _, hea, _⟩ := hown.form; refine Hid.out ?_)
    refine Nu.hid ?_
    have hG2 := (hb.block _ hs1).trans HG1.out
    clear x0 x1
    obtain ⟨x0, x1, -⟩ := pair_cells hG2
    have hs2 := lt_of_block hG2
    have HB2 := Nu.hid (HB1.out.trans (hb.mono HB1.out.size))
    have HG2 := Nu.hid hG2
    have HEA2 := Nu.hid hea
    clear hb hG2 hown hea
    go_wp2_with (go_at_call 6; refine (HPV.out _ _ _ HEA2.out).mono ?_; rintro e w3 ⟨rfl, hb⟩; refine Hid.out ?_)
    refine Nu.hid ?_
    have hG3 := (hb.block _ hs2).trans HG2.out
    clear x0 x1
    obtain ⟨x0, x1, -⟩ := pair_cells hG3
    have hs3 := lt_of_block hG3
    have HB3 := Nu.hid (HB2.out.trans (hb.mono HB2.out.size))
    have HG3 := Nu.hid hG3
    clear hb hG3
    go_wp2_with (go_at_call 7; refine (rcopy_any n ao ca es _ (HQ.out.hat.later HB3.out) (by omega)).mono ?_; rintro e w4 ⟨v, rfl, hown, hb⟩; obtain ⟨a, c, rfl, _, _, hea, _⟩ := hown.form; refine Hid.out ?_)
    refine Nu.hid ?_
    have hG4 := (hb.block _ hs3).trans HG3.out
    clear x0 x1
    obtain ⟨x0, x1, -⟩ := pair_cells hG4
    have hs4 := lt_of_block hG4
    have HB4 := Nu.hid (HB3.out.trans (hb.mono HB3.out.size))
    have HG4 := Nu.hid hG4
    have HEA4 := Nu.hid hea
    clear hb hG4 hown hea
    go_wp2_with (go_at_call 8; refine (HPT.out _ _ _ HEA4.out (HTAB.out.below HB4.out)).mono ?_; rintro e w5 ⟨rfl, hb⟩; refine Hid.out ?_)
    refine Nu.hid ?_
    have hG5 := (hb.block _ hs4).trans HG4.out
    clear x0 x1
    obtain ⟨x0, x1, -⟩ := pair_cells hG5
    have hs5 := lt_of_block hG5
    have HB5 := Nu.hid (HB4.out.trans (hb.mono HB4.out.size))
    have HG5 := Nu.hid hG5
    clear hb hG5
    go_wp2
    go_ret
    exact ⟨rfl, HB5.out⟩
  | true =>
    have hval := Si.valid_iff.1 hv
    have hfew := hval.few
    rw [hv] at hpv
    have HPV := Nu.hid hpv
    have HPT := Nu.hid hpt
    have HV := Nu.hid hval
    have HV1 := Nu.hid hv
    clear hpv hpt hval hv
    go_enter Tryd.func3, Tryd.ntmps3
    go_wp2_with (go_at_call 5; refine (wakes_any _ (HTAB.out.below HB0.out)).mono ?_; rintro e w1 ⟨rfl, hb⟩; refine Hid.out ?_)
    refine Nu.hid ?_
    have hG1 := (hb.block _ hs0).trans HG0.out
    obtain ⟨x0, x1, -⟩ := pair_cells hG1
    have hs1 := lt_of_block hG1
    have HB1 := Nu.hid (HB0.out.trans (hb.mono HB0.out.size))
    have HG1 := Nu.hid hG1
    clear hb hG1
    go_wp2_with (go_at_call 7; refine (rcopy_any n ao ca es _ (HQ.out.hat.later HB1.out) (by omega)).mono ?_; rintro e w2 ⟨v, rfl, hown, hb⟩; obtain ⟨a, c, rfl, _, _, hea, _⟩ := hown.form; refine Hid.out ?_)
    refine Nu.hid ?_
    have hG2 := (hb.block _ hs1).trans HG1.out
    clear x0 x1
    obtain ⟨x0, x1, -⟩ := pair_cells hG2
    have hs2 := lt_of_block hG2
    have HB2 := Nu.hid (HB1.out.trans (hb.mono HB1.out.size))
    have HG2 := Nu.hid hG2
    have HEA2 := Nu.hid hea
    clear hb hG2 hown hea
    go_wp2_with (go_at_call 6; refine (HPV.out _ _ _ HEA2.out).mono ?_; rintro e w3 ⟨rfl, hb⟩; refine Hid.out ?_)
    refine Nu.hid ?_
    have hG3 := (hb.block _ hs2).trans HG2.out
    clear x0 x1
    obtain ⟨x0, x1, -⟩ := pair_cells hG3
    have hs3 := lt_of_block hG3
    have HB3 := Nu.hid (HB2.out.trans (hb.mono HB2.out.size))
    have HG3 := Nu.hid hG3
    clear hb hG3
    have hrp := rpairs_any n ao ca es w3 (HQ.out.hat.later HB3.out) (by omega)
    unfold graphVal at hrp
    have HRP := Nu.hid hrp
    clear hrp
    go_wp2_with (go_at_call 9; refine HRP.out.mono ?_; rintro e w4 ⟨v4, rfl, hown, hb⟩; refine Hid.out ?_)
    refine Nu.hid ?_
    have hG4 := (hb.block _ hs3).trans HG3.out
    clear x0 x1
    obtain ⟨x0, x1, -⟩ := pair_cells hG4
    have hs4 := lt_of_block hG4
    have HB4 := Nu.hid (HB3.out.trans (hb.mono HB3.out.size))
    have HG4 := Nu.hid hG4
    have HO4 : Hid (OwnP w4 (w.heap.size + 1) v4 es) := hown.lower (by omega)
    clear hb hG4 hown HRP x0 x1
    go_upto_block 0 with fail
    go_cut [9] from 38 to 102 (fun v wr => ∃ ps : List (Int × Int), Si.Shuf n es ps ∧ ps.length ≤ es.length + len1 ∧ OwnP wr (w.heap.size + 1) v ps ∧ wr.heap[w.heap.size]? = some (.cells #[.int .i64 n, .slice ao es.length ca] 24 (0, 0)) ∧ Below w.heap.size w wr)
    case first =>
      go_wp2_with fail
      go_loopw [9, 10] (fun v c wr => ∃ (k : Nat) (ps : List (Int × Int)), k ≤ len1 ∧ c = .int .i64 k ∧ Si.Shuf n es ps ∧ ps.length ≤ es.length + k ∧ OwnP wr (w.heap.size + 1) v ps ∧ wr.heap[w.heap.size]? = some (.cells #[.int .i64 n, .slice ao es.length ca] 24 (0, 0)) ∧ Below w.heap.size w wr) (fun _ c _ => len1 - (intOf c).toNat)
      case atStart => exact ⟨0, es, Nat.zero_le _, rfl, Si.Shuf.start HV.out, Nat.le_refl _, HO4.out, HG4.out, HB4.out⟩
      case round =>
        obtain ⟨k, ps, hk, rfl, hsh, hpl, hown, hg, hb⟩ := hrel
        have HSH := Nu.hid hsh
        have HG := Nu.hid hg
        have HB := Nu.hid hb
        have HOWN := Nu.hid hown
        have hsg := lt_of_block hg
        clear hsh hg hown
        by_cases hlt : k < len1
        · have hlti : (k : Int) < (len1 : Int) := by omega
          have hk0 : (0 : Int) ≤ (k : Int) := by omega
          by_cases hpos : 0 < ps.length
          · have hposi : (0 : Int) < (ps.length : Int) := by omega
            obtain ⟨b, o, rfl, c0, hx1, hx2⟩ := (HR1.out.later hb).int_at hlt
            have hbl : b < wr.heap.size := block_lt_of_cell c0
            generalize z1.getD k 0 = x at c0 hx1 hx2
            obtain ⟨g, o', cap', rfl, hrow⟩ := HOWN.out.row hpos
            obtain ⟨J, hJ, hJl⟩ : ∃ J : Nat, (k : Int) % (ps.length : Int) = (J : Int) ∧ J < ps.length := ⟨k % ps.length, by simp, Nat.mod_lt _ hpos⟩
            obtain ⟨K, hK, hKl⟩ : ∃ K : Nat, ((x.tmod (ps.length : Int) = (K : Int) ∧ ¬ (x.tmod (ps.length : Int) < 0)) ∨ (wrap64 (-x.tmod (ps.length : Int)) = (K : Int) ∧ x.tmod (ps.length : Int) < 0)) ∧ K < ps.length := tm x hpos (by omega)
            obtain ⟨pa, hpa⟩ : ∃ p, ps[J]? = some p := ⟨_, List.getElem?_eq_getElem hJl⟩
            obtain ⟨pb, hpb⟩ : ∃ p, ps[K]? = some p := ⟨_, List.getElem?_eq_getElem hKl⟩
            obtain ⟨pc, pd, hpc, hpd, hsh2⟩ := HSH.out.step hpa hpb
            have hJ0 : (0 : Int) ≤ (J : Int) := by omega
            have hK0 : (0 : Int) ≤ (K : Int) := by omega
            have hJi : (J : Int) < (ps.length : Int) := by omega
            have hKi : (K : Int) < (ps.length : Int) := by omega
            obtain ⟨e1, e2⟩ := hrow.at hpa
            obtain ⟨e3, e4⟩ := hrow.at hpb
            obtain ⟨R2, _, ⟨y2, e6⟩, f1, f2⟩ := hrow.pair hJl pb
            obtain ⟨R4, ⟨y3, e7⟩, ⟨y4, e8⟩, f3, f4⟩ := R2.pair (j := K) (by simp; exact hKl) pa
            have HSH2 := Nu.hid hsh2
            have HR4 := Nu.hid R4
            have HPC := Nu.hid hpc
            have HPD := Nu.hid hpd
            clear hrow R2 R4 hsh2 hpc hpd hpa hpb
            have hbW : Below w.heap.size w (((((wr.setCell ⟨g, o' + J * 2, none⟩ (.int .i64 pb.1)).setCell ⟨g, o' + J * 2 + 1, none⟩ (.int .i64 pb.2)).setCell ⟨g, o' + K * 2, none⟩ (.int .i64 pa.1)).setCell ⟨g, o' + K * 2 + 1, none⟩ (.int .i64 pa.2)).drew) := by
              have hgl := HR4.out.lt.1
              exact ((((hb.setCell (by simp; omega) _).setCell (by simp; omega) _).setCell (by simp; omega) _).setCell (by simp; omega) _).drew
            have hgW : (((((wr.setCell ⟨g, o' + J * 2, none⟩ (.int .i64 pb.1)).setCell ⟨g, o' + J * 2 + 1, none⟩ (.int .i64 pb.2)).setCell ⟨g, o' + K * 2, none⟩ (.int .i64 pa.1)).setCell ⟨g, o' + K * 2 + 1, none⟩ (.int .i64 pa.2)).drew).heap[w.heap.size]? = some (.cells #[.int .i64 n, .slice ao es.length ca] 24 (0, 0)) := by
              have hgl := HR4.out.lt.1
              show ((((wr.setCell ⟨g, o' + J * 2, none⟩ (.int .i64 pb.1)).setCell ⟨g, o' + J * 2 + 1, none⟩ (.int .i64 pb.2)).setCell ⟨g, o' + K * 2, none⟩ (.int .i64 pa.1)).setCell ⟨g, o' + K * 2 + 1, none⟩ (.int .i64 pa.2)).heap[w.heap.size]? = _
              rw [heap_setCell_other _ _ _ _ (by simp; omega), heap_setCell_other _ _ _ _ (by simp; omega), heap_setCell_other _ _ _ _ (by simp; omega), heap_setCell_other _ _ _ _ (by simp; omega)]
              exact HG.out
            obtain ⟨W1, hW1⟩ : ∃ W1, (((((wr.setCell ⟨g, o' + J * 2, none⟩ (.int .i64 pb.1)).setCell ⟨g, o' + J * 2 + 1, none⟩ (.int .i64 pb.2)).setCell ⟨g, o' + K * 2, none⟩ (.int .i64 pa.1)).setCell ⟨g, o' + K * 2 + 1, none⟩ (.int .i64 pa.2)).drew) = W1 := ⟨_, rfl⟩
            have HR5 : Hid (PR W1 (w.heap.size + 1) g o' ps.length cap' (flatE ((ps.set J pb).set K pa))) := by
              show PR W1 (w.heap.size + 1) g o' ps.length cap' (flatE ((ps.set J pb).set K pa))
              rw [← hW1]
              exact HR4.out.drew
            rw [hW1] at hbW hgW
            have HBW := Nu.hid hbW
            have HGW := Nu.hid hgW
            have HW1 := Nu.hid hW1
            clear hbW hgW hW1 HR4
            generalize hqs : (ps.set J pb).set K pa = qs at HR5 HSH2 HPC HPD
            have hql : qs.length = ps.length := by rw [← hqs]; simp
            clear hqs
            rcases hK with ⟨hK1, hK2⟩ | ⟨hK1, hK2⟩
            all_goals go_wp2_with fail
            all_goals try rw [hK1]
            all_goals try rw [hJ]
            all_goals go_big_region
            all_goals rw [HW1.out]
            all_goals clear e1 e2 e3 e4 e6 e7 e8 f1 f2 f3 f4 hK1 hK2
            all_goals obtain ⟨e1, e2⟩ := HR5.out.at HPC.out
            all_goals obtain ⟨R7, -, ⟨y6, e6⟩, f1, f2⟩ := HR5.out.pair (j := J) (by omega) (pc.2, pc.1)
            all_goals dsimp only at R7 e6 f1 f2
            all_goals have f5 := HR5.out.lt
            all_goals have hB7 := ((HBW.out.setCell (p := ⟨g, o' + J * 2, none⟩) (by simp; omega) (.int .i64 pc.2)).setCell (p := ⟨g, o' + J * 2 + 1, none⟩) (by simp; omega) (.int .i64 pc.1)).drew
            all_goals have R8 := R7.drew
            all_goals have hG7 : (((W1.setCell ⟨g, o' + J * 2, none⟩ (.int .i64 pc.2)).setCell ⟨g, o' + J * 2 + 1, none⟩ (.int .i64 pc.1)).drew).heap[w.heap.size]? = some (.cells #[.int .i64 n, .slice ao es.length ca] 24 (0, 0)) := ((heap_setCell_other _ ⟨g, o' + J * 2 + 1, none⟩ _ _ (by simp; omega)).trans (heap_setCell_other _ ⟨g, o' + J * 2, none⟩ _ _ (by simp; omega))).trans HGW.out
            all_goals obtain ⟨W2, hW2⟩ : ∃ W2, ((W1.setCell ⟨g, o' + J * 2, none⟩ (.int .i64 pc.2)).setCell ⟨g, o' + J * 2 + 1, none⟩ (.int .i64 pc.1)).drew = W2 := ⟨_, rfl⟩
            all_goals rw [hW2] at R8 hB7 hG7
            all_goals have HW2 := Nu.hid hW2
            all_goals have HB7 := Nu.hid hB7
            all_goals have HG7 := Nu.hid hG7
            all_goals have hs7 := lt_of_block hG7
            all_goals have hs8 : w.heap.size ≤ W2.heap.size := hB7.size
            all_goals generalize hrs : qs.set J (pc.2, pc.1) = rs at R8 HSH2 HPD
            all_goals have hrl : rs.length = ps.length := by rw [← hrs, List.length_set]; exact hql
            all_goals have HOW := Nu.hid (R8.own hrl)
            all_goals obtain ⟨e3, e4⟩ := R8.at HPD.out
            all_goals have f6 := R8.lt
            all_goals clear hW2 R7 R8 hrs hB7 hG7
            all_goals go_wp2_with fail
            all_goals go_big_region
            all_goals rw [HW2.out]
            all_goals clear e1 e2 e6 f1 f2 HW2 HW1
            all_goals have HPL := Nu.hid hpl
            all_goals go_wp2_with (at_builtin; refine wpList_append_own _ rfl _ _ 32 rfl (w.heap.size + 1) 34 i0 (.agg #[.int .i64 0, .int .i64 0]) 2 16 Tryd.underlying32 hi hz0 hz1 hz2 rfl (by decide) _ _ _ rfl (World.ownsRow.alloc HOW.out _) ⟨W2.heap.size, 0, none⟩ 1 1 [.int .i64 pd.1, .int .i64 pd.2] rfl rfl (new_two_e _ _ rfl _ _ _) (by simp [Value.oneCell']) (by unfold maxLen; omega) (by omega) (by simp; omega) ?_; refine Hid.out ?_)
            all_goals refine Nu.hid ?_
            all_goals intro v' w8 hrow8 hg8 _
            all_goals have HR8 := Nu.hid (own_snoc (ps := rs) (p := pd) hrl hrow8)
            all_goals have HG8 := Nu.hid ((hg8.block _ (by simp; omega) (by simp [Value.ownBlock]; omega)).trans ((Below.heap_alloc _ _ _ hs7).trans HG7.out))
            all_goals have HB8 := Nu.hid ((HB7.out.alloc hs8 _).grown hg8 (by simp; omega) (fun j hj => by simp [Value.ownBlock] at hj; omega))
            all_goals clear hrow8 hg8
            all_goals go_wp2
            all_goals go_roundw
            case rel | rel => exact ⟨k + 1, _, by omega, by go_num, HSH2.out, by rw [List.length_append, hrl]; simp; omega, HR8.out, HG8.out, HB8.out⟩
            case measure | measure => simp [intOf]; omega
          · have hpz : ps = [] := List.length_eq_zero_iff.1 (by omega)
            subst hpz
            obtain ⟨v0, c0, rfl, _, _, _, _⟩ := HOWN.out.form
            have hposi : ¬ (((([] : List (Int × Int)).length : Nat) : Int) > 0) := by simp
            go_wp2_with fail
            go_meet
            case rel => exact ⟨[], HSH.out, by simp, HOWN.out, HG.out, HB.out⟩
        · have hd : ¬ ((k : Int) < (len1 : Int)) := by omega
          go_wp2_with fail
          go_meet
          case rel => exact ⟨ps, HSH.out, by omega, HOWN.out, HG.out, HB.out⟩
    case rest =>
      obtain ⟨ps0, hsh0, hpl0, hown0, hg0, hb0⟩ := hcut
      have HSH0 := Nu.hid hsh0
      have HOWN0 := Nu.hid hown0
      have HG0' := Nu.hid hg0
      have HB0' := Nu.hid hb0
      clear hsh0 hown0 hg0 hb0
      go_wp2_with fail
      go_loopw [9, 13] (fun v c wr => ∃ (k : Nat) (ps : List (Int × Int)), k ≤ len2 ∧ c = .int .i64 k ∧ Si.Shuf n es ps ∧ ps.length ≤ es.length + len1 + k ∧ OwnP wr (w.heap.size + 1) v ps ∧ wr.heap[w.heap.size]? = some (.cells #[.int .i64 n, .slice ao es.length ca] 24 (0, 0)) ∧ Below w.heap.size w wr) (fun _ c _ => len2 - (intOf c).toNat)
      case atStart => exact ⟨0, ps0, Nat.zero_le _, rfl, HSH0.out, by omega, HOWN0.out, HG0'.out, HB0'.out⟩
      case round =>
        obtain ⟨k, ps, hk, rfl, hsh, hpl, hown, hg, hb⟩ := hrel
        have HSH := Nu.hid hsh
        have HG := Nu.hid hg
        have HB := Nu.hid hb
        have HOWN := Nu.hid hown
        have hsg := lt_of_block hg
        have hsb : w.heap.size ≤ wr.heap.size := hb.size
        obtain ⟨x0, x1, -⟩ := pair_cells hg
        clear hsh hg hown
        by_cases hlt : k < len2
        · have hlti : (k : Int) < (len2 : Int) := by omega
          have hk0 : (0 : Int) ≤ (k : Int) := by omega
          obtain ⟨b, o, rfl, c0, hx1, hx2⟩ := (HR2.out.later hb).int_at hlt
          have hbl : b < wr.heap.size := block_lt_of_cell c0
          generalize z2.getD k 0 = x at c0 hx1 hx2
          by_cases hx0 : 0 ≤ x
          · have hd0 : decide (0 ≤ x) = true := decide_eq_true hx0
            by_cases hxn : x < n
            · have hd1 : decide (x < n) = true := decide_eq_true hxn
              go_wp2_with fail
              go_quiet (fail)
              go_wp2_with fail
              have c0' : (wr.drewN nq).cell? ⟨b, o + k, none⟩ = some (.int .i64 x) := c0
              have HO3 := Nu.hid (show OwnP (wr.drewN nq) (w.heap.size + 1) _ ps from HOWN.out)
              have HG3 := Nu.hid (show (wr.drewN nq).heap[w.heap.size]? = some (.cells #[.int .i64 n, .slice ao es.length ca] 24 (0, 0)) from HG.out)
              have HB3 := Nu.hid (below_drewN HB.out nq)
              have hs3' : w.heap.size < (wr.drewN nq).heap.size := hsg
              have hbl' : b < (wr.drewN nq).heap.size := hbl
              clear c0 x0 x1 hb hsg hsb hbl HOWN HG HB
              generalize wr.drewN nq = W3 at *
              have hsle : w.heap.size ≤ W3.heap.size := by omega
              go_region_law
                (refine step_append_lies _ (by rfl) _ _ _ (by rfl) (w.heap.size + 1) 34 i0 _ 2 16 Tryd.underlying32 hi hz0 hz1 hz2 rfl (by omega) _ ps.length (flatE ps) (by rfl) ((World.ownsRow.alloc HO3.out _).drew)
                    ⟨W3.heap.size, 0, none⟩ 1 1 [.int .i64 x, .int .i64 x] (by rfl) (by rfl) (World.news_of_block (cs := #[.int .i64 x, .int .i64 x]) (t := 34) (fr := (0, 0)) (heap_alloc_new W3 _)) (by simp [Value.oneCell'])
                    (by omega) (by unfold maxLen; omega) (by omega) (by simp; omega) (W3.heap.size + 1) (by simp) ?_; intro gg cap8 w8 hrow8 hg8 hat hlt8)
              all_goals go_wp2
              all_goals
                first
                  | (go_roundw
                     case rel => exact ⟨k + 1, ps ++ [(x, x)], by omega, by go_num, HSH.out.loop ⟨hx0, hxn⟩, by rw [List.length_append]; simp; omega, own_snoc (ps := ps) (p := (x, x)) rfl hrow8, (hg8.block _ (by simp; omega) (fun h => HO3.out.far (by omega) h.symm)).trans ((Below.heap_alloc _ _ _ hs3').trans HG3.out), (HB3.out.alloc hsle _).drew.grown hg8 (by simp; omega) (fun j hj => by have := (World.ownsRow.lt HO3.out j hj).1; omega)⟩
                     case measure => simp [intOf]; omega)
            · have hd1 : decide (x < n) = false := decide_eq_false hxn
              go_wp2_with fail
              go_quiet (fail)
              go_wp2
              go_roundw
              case rel => exact ⟨k + 1, ps, by omega, by go_num, HSH.out, by omega, HOWN.out, HG.out, below_drewN HB.out _⟩
              case measure => simp [intOf]; omega
          · have hd0 : decide (0 ≤ x) = false := decide_eq_false hx0
            go_wp2_with fail
            go_quiet (fail)
            go_wp2
            go_roundw
            case rel => exact ⟨k + 1, ps, by omega, by go_num, HSH.out, by omega, HOWN.out, HG.out, below_drewN HB.out _⟩
            case measure => simp [intOf]; omega
        · have hd : ¬ ((k : Int) < (len2 : Int)) := by omega
          obtain ⟨va, vc, rfl, _, _, hea, _⟩ := HOWN.out.form
          have hmk := make_any n va vc ps wr hea (by omega)
          unfold MakePost at hmk
          rw [HSH.out.mkd HV.out] at hmk
          dsimp only at hmk
          have HMK := Nu.hid hmk
          clear hmk hea hb
          go_wp2_with (go_at_call 10; refine HMK.out.mono ?_; rintro e w5 ⟨v5, rfl, hown5, hb5⟩; obtain ⟨a5, c5, rfl, _, _, hea5, _⟩ := hown5.form; refine Hid.out ?_)
          refine Nu.hid ?_
          have hG5 := (hb5.block _ hsg).trans HG.out
          have hs5 := lt_of_block hG5
          have HB5 := Nu.hid (HB.out.trans (hb5.mono HB.out.size))
          have hsw5 : w.heap.size ≤ w5.heap.size := HB5.out.size
          have hb56 : Below w5.heap.size w5 (w5.alloc (.cells #[.int .i64 n, .slice a5 es.length c5] 24)) := (Below.refl _ _).alloc (Nat.le_refl _) _
          have hG6 := kept1 (.cells #[.int .i64 n, .slice a5 es.length c5] 24) hG5
          have hA6 := heap_alloc_new w5 (.cells #[.int .i64 n, .slice a5 es.length c5] 24)
          have HB6 := Nu.hid (HB5.out.alloc hsw5 (.cells #[.int .i64 n, .slice a5 es.length c5] 24))
          have HE6 := Nu.hid (hea5.later hb56)
          clear hb5 hown5 hea5 hb56 x0 x1 HMK hG5
          go_upto_region 23 with fail
          generalize w5.alloc (.cells #[.int .i64 n, .slice a5 es.length c5] 24) = w6 at *
          obtain ⟨x0, x1, -⟩ := pair_cells hG6
          obtain ⟨y0, y1, -⟩ := pair_cells hA6
          have hs6 := lt_of_block hG6
          have ht6 := lt_of_block hA6
          have HG6 := Nu.hid hG6
          clear hG6 hA6
          go_cut [156] from 142 to 156 (fun s wx => s = .bool false ∧ Below w6.heap.size w6 wx)
          case first =>
            have hbr : Below w6.heap.size w6 w6.drew := (Below.refl _ _).drew
            have hS : ∀ W, Below w6.heap.size w6 W → (W.cell? ⟨w.heap.size, 0, none⟩ = some (.int .i64 n) ∧ W.cell? ⟨w.heap.size, 1, none⟩ = some (.slice ao es.length ca) ∧ W.cell? ⟨w5.heap.size, 0, none⟩ = some (.int .i64 n) ∧ W.cell? ⟨w5.heap.size, 1, none⟩ = some (.slice a5 es.length c5) ∧ Below w6.heap.size w6 W) := fun W h =>
              ⟨(h.cell (p := ⟨w.heap.size, 0, none⟩) hs6).trans x0, (h.cell (p := ⟨w.heap.size, 1, none⟩) hs6).trans x1, (h.cell (p := ⟨w5.heap.size, 0, none⟩) ht6).trans y0, (h.cell (p := ⟨w5.heap.size, 1, none⟩) ht6).trans y1, h⟩
            have HS := Nu.hid hS
            have hcg : ∀ (W : World), Below w6.heap.size w6 W → Calls Tryd.prog 7 #[.agg #[.int .i64 n, .slice ao es.length ca]] W fun e W2 => ∃ a c, e = .returned (.agg #[.int .i64 n, .slice a es.length c]) ∧ EdgesAt W2 a es ∧ Below W.heap.size W W2 ∧ Below w6.heap.size w6 W2 := fun W h => by
              refine (rcopy_any n ao ca es W (HQ.out.hat.later (HB6.out.trans (h.mono HB6.out.size))) (by omega)).mono ?_
              rintro e W2 ⟨v, rfl, hown, hb⟩
              obtain ⟨a, c, rfl, _, _, hea, _⟩ := hown.form
              exact ⟨a, c, rfl, hea, hb, h.trans (hb.mono h.size)⟩
            have HCG := Nu.hid hcg
            have hsa : ∀ (a : Option Addr) (c : Nat) (W : World), Below w6.heap.size w6 W → EdgesAt W a es → Calls Tryd.prog 12 #[.agg #[.int .i64 n, .slice a5 es.length c5], .agg #[.int .i64 n, .slice a es.length c]] W fun e w' => e = .returned (.bool true) ∧ Below W.heap.size W w' := fun a c W hb h' => by
              have := same_any n n a5 a c5 c es es W (HE6.out.later hb) h' (by omega) (by omega)
              have hsm : Si.same n n es es = true := by unfold Si.same; rw [HV1.out, Si.equal_yes rfl rfl]; rfl
              rw [hsm] at this
              exact this
            have HSA := Nu.hid hsa
            have heq : ∀ (W : World), Below w6.heap.size w6 W → Calls Tryd.prog 11 #[.agg #[.int .i64 n, .slice a5 es.length c5], .agg #[.int .i64 n, .slice ao es.length ca]] W fun e w' => e = .returned (.bool true) ∧ Below W.heap.size W w' := fun W hb => by
              have := equal_any n n a5 ao c5 ca es es W (HE6.out.later hb) (HQ.out.hat.later (HB6.out.trans (hb.mono HB6.out.size))) (by omega)
              rw [Si.equal_yes rfl rfl] at this
              exact this
            have HEQ := Nu.hid heq
            clear hcg hS hsa heq
            go_region_held3 (fun W => W.cell? ⟨w.heap.size, 0, none⟩ = some (.int .i64 n) ∧ W.cell? ⟨w.heap.size, 1, none⟩ = some (.slice ao es.length ca) ∧ W.cell? ⟨w5.heap.size, 0, none⟩ = some (.int .i64 n) ∧ W.cell? ⟨w5.heap.size, 1, none⟩ = some (.slice a5 es.length c5) ∧ Below w6.heap.size w6 W)
              (exact HS.out _ (by first | assumption | exact hbr))
              ((first
                | (go_at_call 7; refine (HCG.out _ (by first | assumption | exact hbr)).mono ?_; rintro e W2 ⟨aa, cc, rfl, hea, hbs, hbz⟩)
                | (go_at_call 11; refine (HEQ.out _ (by first | assumption | exact hbr)).mono ?_; rintro e W2 ⟨rfl, hbs⟩; have hbz : Below w6.heap.size w6 W2 := Below.trans (by first | assumption | exact hbr) (hbs.mono (Below.size (by first | assumption | exact hbr))))
                | (go_at_call 12; refine (HSA.out _ _ _ (by first | assumption | exact hbr) (by first | assumption | exact EdgesAt.later (by assumption) (by assumption))).mono ?_; rintro e W2 ⟨rfl, hbs⟩; have hbz : Below w6.heap.size w6 W2 := Below.trans (by first | assumption | exact hbr) (hbs.mono (Below.size (by first | assumption | exact hbr))))))
            all_goals
              go_wp2_with fail
              go_meet
              case rel => exact ⟨rfl, hbz⟩
          case rest =>
            obtain ⟨rfl, hb7⟩ := hcut
            obtain ⟨w7, hw7⟩ : ∃ w7, wc = w7 := ⟨_, rfl⟩
            rw [hw7] at hb7
            have HW7 := Nu.hid hw7
            clear hw7
            have hG7 := (hb7.block _ hs6).trans HG6.out
            clear x0 x1 y0 y1
            obtain ⟨x0, x1, -⟩ := pair_cells hG7
            have hs7 := lt_of_block hG7
            have HB7 := Nu.hid (HB6.out.trans (hb7.mono HB6.out.size))
            have HG7 := Nu.hid hG7
            clear hb7 hG7
            rw [HW7.out]
            clear HW7
            go_wp2_with (go_at_call 7; refine (rcopy_any n ao ca es _ (HQ.out.hat.later HB7.out) (by omega)).mono ?_; rintro e w8 ⟨v, rfl, hown, hb⟩; obtain ⟨a, c, rfl, _, _, hea, _⟩ := hown.form; refine Hid.out ?_)
            refine Nu.hid ?_
            have hG8 := (hb.block _ hs7).trans HG7.out
            clear x0 x1
            obtain ⟨x0, x1, -⟩ := pair_cells hG8
            have hs8 := lt_of_block hG8
            have HB8 := Nu.hid (HB7.out.trans (hb.mono HB7.out.size))
            have HG8 := Nu.hid hG8
            have HEA8 := Nu.hid hea
            clear hb hG8 hown hea
            rcases text_is HV1.out with htx | ⟨htx, htl, hbl⟩
            · rw [htx] at HPT
              have hrt := fun (W : World) (hb : Below w.heap.size w W) => rtext_any n ao ca es W (HQ.out.hat.later hb) (by omega) (HTAB.out.below hb)
              rw [htx] at hrt
              unfold graphVal textVal at hrt
              have HRT := Nu.hid hrt
              clear hrt htx
              go_wp2_with (go_at_call 8; refine (HPT.out _ _ _ HEA8.out (HTAB.out.below HB8.out)).mono ?_; rintro e w9 ⟨rfl, hb⟩; refine Hid.out ?_)
              refine Nu.hid ?_
              have hG9 := (hb.block _ hs8).trans HG8.out
              clear x0 x1
              obtain ⟨x0, x1, -⟩ := pair_cells hG9
              have hs9 := lt_of_block hG9
              have HB9 := Nu.hid (HB8.out.trans (hb.mono HB8.out.size))
              have HG9 := Nu.hid hG9
              clear hb hG9
              go_wp2_with (go_at_call 13; refine (HRT.out _ HB9.out).mono ?_; rintro e w10 ⟨rfl, hb⟩)
              go_ret
              exact ⟨rfl, HB9.out.trans (hb.mono HB9.out.size)⟩
            · have hraw := Pa.raw_written (N := n) (fit := es) ⟨HV.out.lo, HV.out.hi⟩ (fun p hp => (Si.Shuf.start HV.out).inn p hp) htl hbl
              generalize hTX : Pa.body ((n, (es.length : Int)) :: es) = TX at htx hraw hbl
              rw [htx] at HPT
              have HRAW := Nu.hid hraw
              clear hraw htx hTX
              go_wp2_with (go_at_call 8; refine (HPT.out _ _ _ HEA8.out (HTAB.out.below HB8.out)).mono ?_; rintro e w9 ⟨rfl, hb⟩; refine Hid.out ?_)
              refine Nu.hid ?_
              have hG9 := (hb.block _ hs8).trans HG8.out
              clear x0 x1
              obtain ⟨x0, x1, -⟩ := pair_cells hG9
              have hs9 := lt_of_block hG9
              have HB9 := Nu.hid (HB8.out.trans (hb.mono HB8.out.size))
              have HG9 := Nu.hid hG9
              clear hb hG9
              have hsz : (⟨TX.toArray⟩ : ByteArray).size = TX.length := by simp [ByteArray.size]
              have hTXT : HasText (Lib.bytesWorld w9 5 ⟨TX.toArray⟩) (some ⟨w9.heap.size, 0, none⟩) TX.length (Nu.ofBytes TX) := fun i hi => by
                have hc := Lib.bytesWorld_cell w9 5 ⟨TX.toArray⟩ i (by rw [hsz]; exact hi)
                refine ⟨?_, w9.heap.size, 0, rfl, ?_⟩
                · unfold Nu.ofBytes
                  have := (TX.getD i 0).toNat_lt
                  omega
                · rw [Nat.zero_add]
                  exact hc
              have hcapb := grownCap_ge w9 TX.length 0 5
              have HTXT := Nu.hid hTXT
              have kb' := Lib.run_convert_string_bytes (P := Tryd.prog) w9 9 44 5 ⟨TX.toArray⟩ Tryd.underlying9 Tryd.underlying44 Tryd.underlying5
              rw [hsz] at kb'
              clear hTXT
              have hBS := Lib.bytesWorld_size w9 5 ⟨TX.toArray⟩
              have HBW := Nu.hid (Lib.bytesWorld_below w9 5 ⟨TX.toArray⟩)
              generalize Lib.bytesWorld w9 5 ⟨TX.toArray⟩ = w10 at *
              have hBl : w9.heap.size < w10.heap.size := by omega
              clear hBS
              have hG10 := (HBW.out.block _ hs9).trans HG9.out
              have hs10 := lt_of_block hG10
              have HB10 := Nu.hid (HB9.out.trans (HBW.out.mono HB9.out.size))
              have HG10 := Nu.hid hG10
              clear hG10 x0 x1
              go_wp2_with (go_at_call 14; refine (read_graph_any _ TX.length _ (Nu.ofBytes TX) _ HTXT.out (by intro x hx; cases hx; exact hBl) (by unfold maxLen; omega) hcapb).mono ?_; refine Hid.out ?_)
              refine Nu.hid ?_
              rintro e w11 ⟨hb11, hor⟩
              rw [HRAW.out] at hor
              rcases hor with ⟨y, hy, _⟩ | ⟨s', v11, hy, rfl, hown11⟩
              · cases hy
              cases hy
              dsimp only at hown11 ⊢
              rw [(Si.Shuf.start HV.out).made HV.out] at hown11
              obtain ⟨a11, c11, rfl, _, _, hea11, _⟩ := hown11.form
              have hG11 := (hb11.block _ hs10).trans HG10.out
              have HB11 := Nu.hid (HB10.out.trans (hb11.mono HB10.out.size))
              have hsw11 : w.heap.size ≤ w11.heap.size := HB11.out.size
              obtain ⟨x0, x1, -⟩ := pair_cells (kept1 (.cells #[.int .i64 0, .int .i64 0] 41) (kept1 (.cells #[.int .i64 n, .slice a11 es.length c11] 24) hG11))
              have hs11 := lt_of_block hG11
              have hbX : Below w11.heap.size w11 ((w11.alloc (.cells #[.int .i64 n, .slice a11 es.length c11] 24)).alloc (.cells #[.int .i64 0, .int .i64 0] 41)) := ((Below.refl _ _).alloc (Nat.le_refl _) _).alloc (by simp) _
              have HBX := Nu.hid (HB11.out.trans (hbX.mono hsw11))
              have heq := equal_any n n a11 ao c11 ca es es _ (hea11.later hbX) (HQ.out.hat.later HBX.out) (by omega)
              rw [Si.equal_yes rfl rfl] at heq
              unfold graphVal at heq
              have HEQ := Nu.hid heq
              have eqR := eqReject
              have t1 : ((0 : Int) == 0 && (0 : Int) == 0) = true := rfl
              clear heq hbX hb11 hown11 hea11 hG11 kb'
              go_wp2_with (go_at_call 11; refine HEQ.out.mono ?_; rintro e w12 ⟨rfl, hb12⟩)
              go_ret
              exact ⟨by simp, HBX.out.trans (hb12.mono HBX.out.size)⟩

set_option maxRecDepth 100000 in
/-- What the walk gives, for every argument and every world that holds the tables. -/
theorem contract (H : Type) (enc : TypeId × Value → H) (W : World) (base : Nat) (args : Array Value) (ds gs : List (DataW H)) (before : List MemPlace)
    (hval : ∀ (j : Nat) t v, Tryd.f3.params[j]? = some t → args[j]? = some v → Value.okWide Tryd.prog W .any base t v)
    (hW : DataW.Whole enc Tryd.prog Tryd.f3.params.toList Rows.simpleBackSpec.vars false W args.toList ds gs before)
    (hsz : (DataW.weightsEach Tryd.prog (Tryd.f3.params.toList ++ (Rows.OpenSpec.upto Rows.simpleBackSpec).bare.plain.varTypes Tryd.prog) (ds ++ gs)).all (· ≤ reachBytes) = true)
    (hk : Rows.uptoSmall H (ds ++ gs) = true)
    (hL : laidMet Tryd.prog listed W) :
    Calls Tryd.prog 3 args W fun e W' => ∃ v, e = .returned v ∧ Rows.simpleBackSpec.post enc Tryd.prog Tryd.f3 false true false false W args v W' := by
  have hW' := hW
  obtain ⟨p, q, hA0, hV, rfl, hfz, hnd⟩ := hW
  have hA : DataW.TrodAll enc Tryd.prog W 0 (fun _ => true) true Tryd.f3.params.toList args.toList ds p := hA0
  rw [Tryd.params3] at hA hval hsz
  obtain ⟨v0, vs0, d0, ds0, p0, q0, hargs, rfl, rfl, h0, r0⟩ := trodAll_cons hA
  obtain ⟨v1, vs1, d1, ds1, p1, q1, rfl, rfl, rfl, h1, r1⟩ := trodAll_cons r0
  obtain ⟨v2, vs2, d2, ds2, p2, q2, rfl, rfl, rfl, h2, r2⟩ := trodAll_cons r1
  obtain ⟨rfl, rfl, rfl⟩ := trodAll_nil r2
  obtain rfl : args = #[v0, v1, v2] := by cases args; simp_all
  obtain ⟨rfl, rfl⟩ := trodVars_none hV
  have k0 := h0
  have lt0 : ∀ x ∈ p0, x.block < W.heap.size := by obtain ⟨m, hm⟩ := k0; exact DataW.trod_lt m _ _ _ hm
  obtain ⟨n0, a0, cap0, q0, rfl, x0, w0, u0⟩ := graph_of_trod (j := 0) (hval 0 24 v0 rfl rfl) h0 hsz rfl rfl
  obtain ⟨a1, len1, cap1, rfl⟩ := okWide_slice Tryd.underlying25 (hval 1 25 v1 rfl rfl)
  have k1 := h1
  have lt1 : ∀ x ∈ p1, x.block < W.heap.size := by obtain ⟨m, hm⟩ := k1; exact DataW.trod_lt m _ _ _ hm
  obtain ⟨z1, w1⟩ := IsRow.of_trod (j := 1) Tryd.underlying25 Tryd.underlying3 cellsInt bytesInt h1 hsz rfl rfl
  have u1 : len1 ≤ 1048576 := IsRow.upto hk (j := 1) Tryd.underlying25 Tryd.underlying3 cellsInt h1 rfl
  obtain ⟨a2, len2, cap2, rfl⟩ := okWide_slice Tryd.underlying25 (hval 2 25 v2 rfl rfl)
  have k2 := h2
  have lt2 : ∀ x ∈ p2, x.block < W.heap.size := by obtain ⟨m, hm⟩ := k2; exact DataW.trod_lt m _ _ _ hm
  obtain ⟨z2, w2⟩ := IsRow.of_trod (j := 2) Tryd.underlying25 Tryd.underlying3 cellsInt bytesInt h2 hsz rfl rfl
  have u2 : len2 ≤ 1048576 := IsRow.upto hk (j := 2) Tryd.underlying25 Tryd.underlying3 cellsInt h2 rfl
  clear hA0
  refine (walk n0 a0 cap0 q0 a1 len1 cap1 z1 a2 len2 cap2 z2 W x0 w0 u0 w1 w2 u1 u2 (table hL)).mono fun e W' ⟨he, bel⟩ => ?_
  subst he
  exact ⟨_, rfl, _, _, _, [], _, [], hW', trodAll_mk1 (shut_bool Tryd.underlying4 _), (trodAll_cons_mk (Below.trod laidOut (by kernel_rfl) (of_decide_eq_true (by kernel_rfl)) k0 bel lt0) (trodAll_cons_mk (Below.trod laidOut (by kernel_rfl) (of_decide_eq_true (by kernel_rfl)) k1 bel lt1) (trodAll_cons_mk (Below.trod laidOut (by kernel_rfl) (of_decide_eq_true (by kernel_rfl)) k2 bel lt2) trodAll_mk0))), rfl, bel.frame _, fun h => by cases h⟩

theorem laid_met (os : Os) : laidMet Tryd.prog Rows.simpleBackUptoRow.laid ((laidWorld os).forCall (fun _ _ => 0) ⟨#[], #[.agg #[.int .i64 0, .slice none 0 0], .slice none 0 0, .slice none 0 0], []⟩).memory :=
  laidMet_of_run' 100 (by kernel_rfl) (by kernel_rfl)
theorem reads (os : Os) {H : Type} (enc : TypeId × Value → H) : ∃ places, DataW.whole enc Tryd.prog ((laidWorld os).forCall (fun _ _ => 0) ⟨#[], #[.agg #[.int .i64 0, .slice none 0 0], .slice none 0 0, .slice none 0 0], []⟩).memory Tryd.f3.params.toList Rows.simpleBackSpec.vars false (#[.agg #[.int .i64 0, .slice none 0 0], .slice none 0 0, .slice none 0 0] : Array Value).toList 8 = some ([.agg [.lit (.int .i64 0), .nil], .nil, .nil], [], places) :=
  ⟨[], by kernel_rfl⟩

set_option maxRecDepth 100000 in
theorem lifted (os : Os) (started : os.Started) (H : Type) (enc : TypeId × Value → H) (F : Stop.Interp) :
    ReturnsInHanded {} Tryd.checked os 3 .any ((Rows.OpenSpec.upto Rows.simpleBackSpec).preRow enc Tryd.prog Tryd.f3 Rows.simpleBackUptoRow.domain false Rows.simpleBackUptoRow.laid) (((Rows.OpenSpec.upto Rows.simpleBackSpec).at F).post enc Tryd.prog Tryd.f3 false true false false) := by
  obtain ⟨places, hx⟩ := reads os enc
  refine returnsInHanded_of_row (C := Tryd.checked) (s := (Rows.OpenSpec.upto Rows.simpleBackSpec)) own started (by kernel_rfl) Tryd.func3
    (witness_row_at (enc := enc) (C := Tryd.checked) false (laidWorld os) #[.agg #[.int .i64 0, .slice none 0 0], .slice none 0 0, .slice none 0 0] rfl (by kernel_rfl) (by kernel_rfl) (by kernel_rfl)
      (OpenSpec.preRow_of_cond 8 hx (by kernel_rfl) (fun k hk => by cases hk; kernel_rfl) (by kernel_rfl) (laid_met os))) ?_
  intro W base args ds gs before hval hW _ hcond hsz hL _ _
  exact contract H enc W base args ds gs before hval hW hsz (hcond _ rfl) hL

theorem said : Rows.SimpleBackUptoSaid :=
  OpenClaim.holds_of_cond 3 Tryd.f3 rfl rfl rfl rfl rfl rfl rfl ⟨rfl, rfl, rfl, rfl, rfl⟩ rfl rfl rfl rfl rfl (by kernel_rfl) Tryd.func3 (by kernel_rfl)
    (of_decide_eq_true (by kernel_rfl)) (by unfold Func.isWrapper; first | (rw [if_pos (by decide +kernel)]; kernel_rfl) | (rw [if_neg (by decide +kernel)]; exact ⟨rfl, rfl⟩))
    (fun os started H enc _ F => by rw [OpenClaim.pre_eq_preRow]; exact lifted os started H enc F)

theorem plain (f : FuncId) (fn : Func) (hf : Tryd.pinned.checked.prog.funcNamed "tangram/tangramlaw03.SimpleBack" = some f) (hfn : Tryd.pinned.checked.prog.funcs[f]? = some fn) :
    true = Tryd.pinned.checked.prog.looks [] ∧ ∀ (j : Nat) t, fn.params[j]? = some t → Tryd.pinned.checked.prog.wantsStandIn t = false := by
  obtain rfl : f = 3 := Option.some.inj ((show Tryd.prog.funcNamed "tangram/tangramlaw03.SimpleBack" = some 3 by kernel_rfl).symm.trans hf) |>.symm
  obtain rfl : fn = Tryd.f3 := (Option.some.inj (Tryd.func3.symm.trans hfn)).symm
  refine ⟨by kernel_rfl, fun j t ht => ?_⟩
  rw [Tryd.params3] at ht
  obtain hx : t = 24 ∨ t = 25 := by simpa using Array.mem_of_getElem? ht
  rcases hx with rfl | rfl
  · exact (show Tryd.prog.wantsStandIn 24 = false by kernel_rfl)
  · exact (show Tryd.prog.wantsStandIn 25 = false by kernel_rfl)

theorem card : Rows.SimpleBackUptoCardSaid :=
  Claim7.holds_tied_plain_at .later [] _ _ _ _ said (fun _ h => by cases h) (by kernel_rfl) (fun _ h => by cases h) simpleBackUpto_row_tie rfl ⟨rfl, rfl⟩ (by kernel_rfl) rfl plain (by kernel_rfl)

end lawSBack

theorem simpleBackUpto_holds : Rows.SimpleBackUptoCardSaid := lawSBack.card

end Go.Proofs.YtmgjfakdjponoabDoor
