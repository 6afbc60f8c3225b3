/-
  Next: the document.
-/
import Derived.Test.YtfkmldopfhdbkaaRoRCk
import Derived.Test.YtfkmldopfhdbkaaMg12
namespace Go.Proofs.Ytfkmldopfhdbkaa
open Go.RowKit Go.Sort

set_option maxRecDepth 100000 in
set_option maxHeartbeats 8000000 in
theorem r11next_any (n : Int) (ao : Option Addr) (ca : Nat) (es : List (Int × Int)) (xo : Option Addr) (xc : Nat) (ls : List (List Int)) (w : World) (he : EdgesAt w ao es) (hl : es.length ≤ 4611686018427387904) (hx : RwsAt w xo ls) :
    Calls Try.prog 49 #[graphVal n ao es.length ca, .slice xo ls.length xc] w (NextP n es ls w) := by
  obtain ⟨i0, hi, hz0, hz1, hz2⟩ := info_parts Try.infoNum
  have hb0 : Below w.heap.size w (w.alloc (.cells #[.int .i64 n, .slice ao es.length ca] 24)) := (Below.refl _ _).alloc (Nat.le_refl _) _
  have HCK := Nu.hid (r11check_any n ao ca es xo xc ls _ (he.later hb0) hl (hx.later hb0))
  have HX := Nu.hid hx
  have HB0 := Nu.hid hb0
  unfold graphVal at HCK ⊢
  clear he hx hb0
  have hch : Ro.check n es ls = ((Ro.check n es ls).1, (Ro.check n es ls).2) := rfl
  by_cases hc : (Ro.check n es ls).2 = 0
  · have hrot := Ro.check_iff.1 hc
    have hval := Si.valid_iff.1 hrot.val
    have hlo := hval.lo
    have hhi := hval.hi
    have hfew := hval.few
    have hlen := hrot.len
    have HROT := Nu.hid hrot
    have HC := Nu.hid hc
    rw [hc] at HCK
    obtain ⟨cv, hcv⟩ : ∃ cv, cv = (Ro.check n es ls).1 := ⟨_, rfl⟩
    rw [← hcv] at HCK
    obtain ⟨M, hM⟩ : ∃ M, M = 2 * es.length := ⟨_, rfl⟩
    have hmul : IntKind.i64.wrap (2 * (es.length : Int)) = (M : Int) := by rw [IntKind.wrap_i64]; omega
    have hmul2 : 2 * (es.length : Int) = (M : Int) := by omega
    have hMb : M ≤ 8388608 := by omega
    have HM := Nu.hid hM
    clear hch hc hrot hval hcv hM
    go_enter Try.func49, Try.ntmps49
    go_wp2_with (go_at_call 68; refine HCK.out.mono ?_; rintro e w1 ⟨rfl, hb⟩; refine Hid.out ?_)
    refine Nu.hid ?_
    have hG0 : w1.heap[w.heap.size]? = some (.cells #[.int .i64 n, .slice ao es.length ca] 24 (0, 0)) := (hb.block _ (by simp)).trans (heap_alloc_new w _)
    obtain ⟨g0, g1, -⟩ := pair_cells hG0
    have hsz1 : w.heap.size < w1.heap.size := lt_of_block hG0
    have HB1 := Nu.hid (HB0.out.trans (hb.mono HB0.out.size))
    clear hb hG0
    go_wp2_with (at_make; refine wpList_make_full _ rfl _ _ 36 rfl w1.heap.size 3 i0 (.int .i64 0) 1 Try.underlying36 hi hz0 hz1 _ _ _ _ M rfl rfl rfl rfl (by rw [hz2]; omega) (by unfold maxLen; omega) (Nat.le_refl _) ?_; refine Hid.out ?_)
    refine Nu.hid ?_
    intro w2 hrow hg2
    rw [made_zeros] at hrow
    have HI2 := Nu.hid (ints_of_row hrow)
    have hb2 : Below w1.heap.size w1 w2 := (Below.refl _ _).grown hg2 (Nat.le_refl _) (fun j hj => by cases hj)
    have HB2 := Nu.hid (HB1.out.trans (hb2.mono HB1.out.size))
    clear hrow hg2 hb2 g0 g1
    go_wp2
    go_loopw [9] (fun c wr => ∃ k : Nat, k ≤ ls.length ∧ c = .int .i64 (k : Int) ∧ IntsBlk wr w1.heap.size (Ro.nx ls k (List.replicate M 0)) ∧ Below w.heap.size w wr) (fun c _ => ls.length - (intOf c).toNat)
    case atStart => exact ⟨0, Nat.zero_le _, rfl, HI2.out, HB2.out⟩
    case round =>
      obtain ⟨k, hk, rfl, hik, hb⟩ := hrel
      clear HI2
      have HI := Nu.hid hik
      have HB := Nu.hid hb
      clear hik hb
      by_cases hlt : k < ls.length
      · have hlti : (k : Int) < (ls.length : Int) := by omega
        have hk0 : (0 : Int) ≤ (k : Int) := by omega
        obtain ⟨l, hlk⟩ : ∃ l, ls[k]? = some l := ⟨_, List.getElem?_eq_getElem hlt⟩
        have hgd : ls.getD k [] = l := by rw [List.getD_eq_getElem?_getD, hlk]; rfl
        obtain ⟨b, o, A, C, rfl, hcell, hL, hln, -⟩ := HX.out k l hlk
        have hbl : b < w.heap.size := block_lt_of_cell hcell
        have hcr := (HB.out.cell (p := ⟨b, o + k, none⟩) hbl).trans hcell
        have HL := Nu.hid hL
        have HLK := Nu.hid hlk
        have HCELL := Nu.hid hcell
        have HGD := Nu.hid hgd
        clear hcell hL hlk hgd
        go_wp2
        clear hcr
        go_loopw [10] (fun c wr => ∃ i : Nat, i ≤ l.length ∧ c = .int .i64 (i : Int) ∧ IntsBlk wr w1.heap.size (Ro.row l i (Ro.nx ls k (List.replicate M 0))) ∧ Below w.heap.size w wr) (fun c _ => l.length - (intOf c).toNat)
        case atStart => exact ⟨0, Nat.zero_le _, rfl, HI.out, HB.out⟩
        case round =>
          clear HI HB
          obtain ⟨i, hil, rfl, hii, hb⟩ := hrel
          have HI := Nu.hid hii
          have HB := Nu.hid hb
          have hcr := (HB.out.cell (p := ⟨b, o + k, none⟩) hbl).trans HCELL.out
          clear hii hb
          by_cases hli : i < l.length
          · have hlii : (i : Int) < (l.length : Int) := by omega
            have hi00 : (0 : Int) ≤ (i : Int) := by omega
            obtain ⟨x, hxi⟩ : ∃ x, l[i]? = some x := ⟨_, List.getElem?_eq_getElem hli⟩
            obtain ⟨j, rfl, hj, -⟩ := HROT.out.half HLK.out hxi
            have hjM : j < M := by have := HM.out; omega
            obtain ⟨q, hq⟩ : ∃ q, q = (i + 1) % l.length := ⟨_, rfl⟩
            have hql : q < l.length := by rw [hq]; exact Nat.mod_lt _ (by omega)
            have hqm : ((i : Int) + 1).tmod (l.length : Int) = (q : Int) := by
              rw [Int.tmod_eq_emod_of_nonneg (by omega), hq]
              exact (Int.natCast_emod (i + 1) l.length).symm
            have hqm2 : ((i : Int) + 1) % (l.length : Int) = (q : Int) := by
              rw [hq]
              exact (Int.natCast_emod (i + 1) l.length).symm
            obtain ⟨y, hy⟩ : ∃ y, l[q]? = some y := ⟨_, List.getElem?_eq_getElem hql⟩
            obtain ⟨lb, lo', rfl, lc⟩ := HL.out.elem hxi
            obtain ⟨lb', lo'', hle, lc'⟩ := HL.out.elem hy
            cases hle
            have hlbl : lb < w.heap.size := block_lt_of_cell lc
            have c1 := (HB.out.cell (p := ⟨lb, lo' + i, none⟩) hlbl).trans lc
            have c2 := (HB.out.cell (p := ⟨lb, lo' + q, none⟩) hlbl).trans lc'
            have hrl : (Ro.row l i (Ro.nx ls k (List.replicate M 0))).length = M := by rw [Ro.row_len, Ro.nx_len]; simp
            obtain ⟨z, hz⟩ : ∃ z, (Ro.row l i (Ro.nx ls k (List.replicate M 0)))[j]? = some z := ⟨_, List.getElem?_eq_getElem (by rw [hrl]; exact hjM)⟩
            have c3 := HI.out.cell hz
            have c4 := HI.out.free j
            have HI3 : Hid (IntsBlk (wr.setCell ⟨w1.heap.size, j, none⟩ (.int .i64 y)) w1.heap.size (Ro.row l (i + 1) (Ro.nx ls k (List.replicate M 0)))) := by
              have h1 := HI.out.set j y
              have e : Ro.row l (i + 1) (Ro.nx ls k (List.replicate M 0)) = (Ro.row l i (Ro.nx ls k (List.replicate M 0))).set j y := by
                show (Ro.row l i _).set (l.getD i 0).toNat (l.getD ((i + 1) % l.length) 0) = _
                rw [← hq, List.getD_eq_getElem?_getD, List.getD_eq_getElem?_getD, hxi, hy]
                rfl
              rw [e]
              exact h1
            have hj0 : (0 : Int) ≤ (j : Int) := by omega
            have hjM2 : (j : Int) < (M : Int) := by omega
            have hq0 : (0 : Int) ≤ (q : Int) := by omega
            have hql2 : (q : Int) < (l.length : Int) := by omega
            have hlz : ((l.length : Int) == 0) = false := beq_false_of_ne (by omega)
            have hwq : IntKind.i64.wrap (q : Int) = (q : Int) := by rw [IntKind.wrap_i64]; omega
            have hwi : IntKind.i64.wrap ((i : Int) + 1) = (i : Int) + 1 := by rw [IntKind.wrap_i64]; omega
            clear hq hy hxi lc lc' hz hrl
            go_wp2_with fail
            go_big_region
            go_wp2
            go_roundw
            case rel => exact ⟨i + 1, by omega, by go_num, HI3.out, by first | exact HB.out.trans (below_setCell (g := w1.heap.size) _ (by omega)) | exact (HB.out.trans (below_setCell (g := w1.heap.size) _ (by omega))).drew⟩
            case measure => simp [intOf]; omega
          · have hlii : ¬ (i : Int) < (l.length : Int) := by omega
            obtain rfl : i = l.length := by omega
            have HI3 : Hid (IntsBlk wr w1.heap.size (Ro.nx ls (k + 1) (List.replicate M 0))) := by
              show IntsBlk wr w1.heap.size (Ro.row (ls.getD k []) (ls.getD k []).length _)
              rw [HGD.out]
              exact HI.out
            go_wp2
            go_roundw
            case rel => exact ⟨k + 1, by omega, by go_num, HI3.out, HB.out⟩
            case measure => simp [intOf]; omega
      · have hlti : ¬ (k : Int) < (ls.length : Int) := by omega
        obtain rfl : k = ls.length := by omega
        go_wp2
        go_ret2
        refine ⟨HB.out, .inr ⟨HC.out, w1.heap.size, by rw [← HM.out]; rfl, by omega, ?_⟩⟩
        unfold Ro.nextL
        rw [← HM.out]
        exact HI.out
  · obtain ⟨cv, hcv⟩ : ∃ cv, cv = (Ro.check n es ls).1 := ⟨_, rfl⟩
    obtain ⟨cc, hcc⟩ : ∃ cc, cc = (Ro.check n es ls).2 := ⟨_, rfl⟩
    rw [← hcv, ← hcc] at HCK
    rw [← hcc] at hc
    have HCC := Nu.hid hcc
    have j1 : (cc != 0) = true := by simp [hc]
    have HNC := Nu.hid hc
    clear hch hcv hcc hc
    go_enter Try.func49, Try.ntmps49
    go_wp2_with (go_at_call 68; refine HCK.out.mono ?_; rintro e w1 ⟨rfl, hb⟩; refine Hid.out ?_)
    refine Nu.hid ?_
    have HB1 := Nu.hid (HB0.out.trans (hb.mono HB0.out.size))
    clear hb
    go_wp2
    go_ret2
    refine ⟨HB1.out, .inl ⟨by rw [← HCC.out]; exact HNC.out, by rw [← HCC.out]; rfl⟩⟩

end Go.Proofs.Ytfkmldopfhdbkaa
