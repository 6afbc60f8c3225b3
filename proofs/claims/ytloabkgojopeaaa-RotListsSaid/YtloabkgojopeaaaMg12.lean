import Derived.Test.YtloabkgojopeaaaMg11
import Derived.Test.YtloabkgojopeaaaMg05
import Derived.Test.YtloabkgojopeaaaMg07
import Derived.Test.YtloabkgojopeaaaMg01
import Derived.Test.YtloabkgojopeaaaMg06
import Derived.Test.YtloabkgojopeaaaMg08
/-
  Next: the document.
-/
namespace Go.Proofs.Ytloabkgojopeaaa
open Go.RowKit Go.Sort

set_option maxRecDepth 100000 in
set_option maxHeartbeats 8000000 in
theorem r11next_any (n : Int) (ao : Option Addr) (ca : Nat) (es : List (Int × Int)) (xo : Option Addr) (xc : Nat) (ls : List (List Int)) (w : World) (he : EdgesAt w ao es) (hl : es.length ≤ 4611686018427387904) (hx : RwsAt w xo ls) :
    Calls Try.prog 19 #[graphVal n ao es.length ca, .slice xo ls.length xc] w (NextP n es ls w) := by
  obtain ⟨i0, hi, hz0, hz1, hz2⟩ := info_parts Try.infoNum
  have hb0 : Below w.heap.size w (w.alloc (.cells #[.int .i64 n, .slice ao es.length ca] 30)) := (Below.refl _ _).alloc (Nat.le_refl _) _
  have HCK := Nu.hid (r11check_any n ao ca es xo xc ls _ (he.later hb0) hl (hx.later hb0))
  have HX := Nu.hid hx
  have HB0 := Nu.hid hb0
  unfold graphVal at HCK ⊢
  clear he hx hb0
  have hch : Ro.check n es ls = ((Ro.check n es ls).1, (Ro.check n es ls).2) := rfl
  by_cases hc : (Ro.check n es ls).2 = 0
  · have hrot := Ro.check_iff.1 hc
    have hval := Si.valid_iff.1 hrot.val
    have hlo := hval.lo
    have hhi := hval.hi
    have hfew := hval.few
    have hlen := hrot.len
    have HROT := Nu.hid hrot
    have HC := Nu.hid hc
    rw [hc] at HCK
    obtain ⟨cv, hcv⟩ : ∃ cv, cv = (Ro.check n es ls).1 := ⟨_, rfl⟩
    rw [← hcv] at HCK
    obtain ⟨M, hM⟩ : ∃ M, M = 2 * es.length := ⟨_, rfl⟩
    have hmul : IntKind.i64.wrap (2 * (es.length : Int)) = (M : Int) := by rw [IntKind.wrap_i64]; omega
    have hmul2 : 2 * (es.length : Int) = (M : Int) := by omega
    have hMb : M ≤ 8388608 := by omega
    have HM := Nu.hid hM
    clear hch hc hrot hval hcv hM
    go_enter Try.func19, Try.ntmps19
    go_wp2_with (go_at_call 17; refine HCK.out.mono ?_; rintro e w1 ⟨rfl, hb⟩; refine Hid.out ?_)
    refine Nu.hid ?_
    have hG0 : w1.heap[w.heap.size]? = some (.cells #[.int .i64 n, .slice ao es.length ca] 30 (0, 0)) := (hb.block _ (by simp)).trans (heap_alloc_new w _)
    obtain ⟨g0, g1, -⟩ := pair_cells hG0
    have hsz1 : w.heap.size < w1.heap.size := lt_of_block hG0
    have HB1 := Nu.hid (HB0.out.trans (hb.mono HB0.out.size))
    clear hb hG0
    go_wp2_with (at_make; refine wpList_make_full _ rfl _ _ 22 rfl w1.heap.size 3 i0 (.int .i64 0) 1 Try.underlying22 hi hz0 hz1 _ _ _ _ M rfl rfl rfl rfl (by rw [hz2]; omega) (by unfold maxLen; omega) (Nat.le_refl _) ?_; refine Hid.out ?_)
    refine Nu.hid ?_
    intro w2 hrow hg2
    rw [made_zeros] at hrow
    have HI2 := Nu.hid (ints_of_row hrow)
    have hb2 : Below w1.heap.size w1 w2 := (Below.refl _ _).grown hg2 (Nat.le_refl _) (fun j hj => by cases hj)
    have HB2 := Nu.hid (HB1.out.trans (hb2.mono HB1.out.size))
    clear hrow hg2 hb2 g0 g1
    go_wp2
    go_loopw [9] (fun c wr => ∃ k : Nat, k ≤ ls.length ∧ c = .int .i64 (k : Int) ∧ IntsBlk wr w1.heap.size (Ro.nx ls k (List.replicate M 0)) ∧ Below w.heap.size w wr) (fun c _ => ls.length - (intOf c).toNat)
    case atStart => exact ⟨0, Nat.zero_le _, rfl, HI2.out, HB2.out⟩
    case round =>
      obtain ⟨k, hk, rfl, hik, hb⟩ := hrel
      clear HI2
      have HI := Nu.hid hik
      have HB := Nu.hid hb
      clear hik hb
      by_cases hlt : k < ls.length
      · have hlti : (k : Int) < (ls.length : Int) := by omega
        have hk0 : (0 : Int) ≤ (k : Int) := by omega
        obtain ⟨l, hlk⟩ : ∃ l, ls[k]? = some l := ⟨_, List.getElem?_eq_getElem hlt⟩
        have hgd : ls.getD k [] = l := by rw [List.getD_eq_getElem?_getD, hlk]; rfl
        obtain ⟨b, o, A, C, rfl, hcell, hL, hln, -⟩ := HX.out k l hlk
        have hbl : b < w.heap.size := block_lt_of_cell hcell
        have hcr := (HB.out.cell (p := ⟨b, o + k, none⟩) hbl).trans hcell
        have HL := Nu.hid hL
        have HLK := Nu.hid hlk
        have HCELL := Nu.hid hcell
        have HGD := Nu.hid hgd
        clear hcell hL hlk hgd
        go_wp2
        clear hcr
        go_loopw [10] (fun c wr => ∃ i : Nat, i ≤ l.length ∧ c = .int .i64 (i : Int) ∧ IntsBlk wr w1.heap.size (Ro.row l i (Ro.nx ls k (List.replicate M 0))) ∧ Below w.heap.size w wr) (fun c _ => l.length - (intOf c).toNat)
        case atStart => exact ⟨0, Nat.zero_le _, rfl, HI.out, HB.out⟩
        case round =>
          clear HI HB
          obtain ⟨i, hil, rfl, hii, hb⟩ := hrel
          have HI := Nu.hid hii
          have HB := Nu.hid hb
          have hcr := (HB.out.cell (p := ⟨b, o + k, none⟩) hbl).trans HCELL.out
          clear hii hb
          by_cases hli : i < l.length
          · have hlii : (i : Int) < (l.length : Int) := by omega
            have hi00 : (0 : Int) ≤ (i : Int) := by omega
            obtain ⟨x, hxi⟩ : ∃ x, l[i]? = some x := ⟨_, List.getElem?_eq_getElem hli⟩
            obtain ⟨j, rfl, hj, -⟩ := HROT.out.half HLK.out hxi
            have hjM : j < M := by have := HM.out; omega
            obtain ⟨q, hq⟩ : ∃ q, q = (i + 1) % l.length := ⟨_, rfl⟩
            have hql : q < l.length := by rw [hq]; exact Nat.mod_lt _ (by omega)
            have hqm : ((i : Int) + 1).tmod (l.length : Int) = (q : Int) := by
              rw [Int.tmod_eq_emod_of_nonneg (by omega), hq]
              exact (Int.natCast_emod (i + 1) l.length).symm
            have hqm2 : ((i : Int) + 1) % (l.length : Int) = (q : Int) := by
              rw [hq]
              exact (Int.natCast_emod (i + 1) l.length).symm
            obtain ⟨y, hy⟩ : ∃ y, l[q]? = some y := ⟨_, List.getElem?_eq_getElem hql⟩
            obtain ⟨lb, lo', rfl, lc⟩ := HL.out.elem hxi
            obtain ⟨lb', lo'', hle, lc'⟩ := HL.out.elem hy
            cases hle
            have hlbl : lb < w.heap.size := block_lt_of_cell lc
            have c1 := (HB.out.cell (p := ⟨lb, lo' + i, none⟩) hlbl).trans lc
            have c2 := (HB.out.cell (p := ⟨lb, lo' + q, none⟩) hlbl).trans lc'
            have hrl : (Ro.row l i (Ro.nx ls k (List.replicate M 0))).length = M := by rw [Ro.row_len, Ro.nx_len]; simp
            obtain ⟨z, hz⟩ : ∃ z, (Ro.row l i (Ro.nx ls k (List.replicate M 0)))[j]? = some z := ⟨_, List.getElem?_eq_getElem (by rw [hrl]; exact hjM)⟩
            have c3 := HI.out.cell hz
            have c4 := HI.out.free j
            have HI3 : Hid (IntsBlk (wr.setCell ⟨w1.heap.size, j, none⟩ (.int .i64 y)) w1.heap.size (Ro.row l (i + 1) (Ro.nx ls k (List.replicate M 0)))) := by
              have h1 := HI.out.set j y
              have e : Ro.row l (i + 1) (Ro.nx ls k (List.replicate M 0)) = (Ro.row l i (Ro.nx ls k (List.replicate M 0))).set j y := by
                show (Ro.row l i _).set (l.getD i 0).toNat (l.getD ((i + 1) % l.length) 0) = _
                rw [← hq, List.getD_eq_getElem?_getD, List.getD_eq_getElem?_getD, hxi, hy]
                rfl
              rw [e]
              exact h1
            have hj0 : (0 : Int) ≤ (j : Int) := by omega
            have hjM2 : (j : Int) < (M : Int) := by omega
            have hq0 : (0 : Int) ≤ (q : Int) := by omega
            have hql2 : (q : Int) < (l.length : Int) := by omega
            have hlz : ((l.length : Int) == 0) = false := beq_false_of_ne (by omega)
            have hwq : IntKind.i64.wrap (q : Int) = (q : Int) := by rw [IntKind.wrap_i64]; omega
            have hwi : IntKind.i64.wrap ((i : Int) + 1) = (i : Int) + 1 := by rw [IntKind.wrap_i64]; omega
            clear hq hy hxi lc lc' hz hrl
            go_wp2_with fail
            go_big_region
            go_wp2
            go_roundw
            case rel => exact ⟨i + 1, by omega, by go_num, HI3.out, by first | exact HB.out.trans (below_setCell (g := w1.heap.size) _ (by omega)) | exact (HB.out.trans (below_setCell (g := w1.heap.size) _ (by omega))).drew⟩
            case measure => simp [intOf]; omega
          · have hlii : ¬ (i : Int) < (l.length : Int) := by omega
            obtain rfl : i = l.length := by omega
            have HI3 : Hid (IntsBlk wr w1.heap.size (Ro.nx ls (k + 1) (List.replicate M 0))) := by
              show IntsBlk wr w1.heap.size (Ro.row (ls.getD k []) (ls.getD k []).length _)
              rw [HGD.out]
              exact HI.out
            go_wp2
            go_roundw
            case rel => exact ⟨k + 1, by omega, by go_num, HI3.out, HB.out⟩
            case measure => simp [intOf]; omega
      · have hlti : ¬ (k : Int) < (ls.length : Int) := by omega
        obtain rfl : k = ls.length := by omega
        go_wp2
        go_ret2
        refine ⟨HB.out, .inr ⟨HC.out, w1.heap.size, by rw [← HM.out]; rfl, by omega, ?_⟩⟩
        unfold Ro.nextL
        rw [← HM.out]
        exact HI.out
  · obtain ⟨cv, hcv⟩ : ∃ cv, cv = (Ro.check n es ls).1 := ⟨_, rfl⟩
    obtain ⟨cc, hcc⟩ : ∃ cc, cc = (Ro.check n es ls).2 := ⟨_, rfl⟩
    rw [← hcv, ← hcc] at HCK
    rw [← hcc] at hc
    have HCC := Nu.hid hcc
    have j1 : (cc != 0) = true := by simp [hc]
    have HNC := Nu.hid hc
    clear hch hcv hcc hc
    go_enter Try.func19, Try.ntmps19
    go_wp2_with (go_at_call 17; refine HCK.out.mono ?_; rintro e w1 ⟨rfl, hb⟩; refine Hid.out ?_)
    refine Nu.hid ?_
    have HB1 := Nu.hid (HB0.out.trans (hb.mono HB0.out.size))
    clear hb
    go_wp2
    go_ret2
    refine ⟨HB1.out, .inl ⟨by rw [← HCC.out]; exact HNC.out, by rw [← HCC.out]; rfl⟩⟩

end Go.Proofs.Ytloabkgojopeaaa

/-
  The document's own Turned, Canon and Mirror.
-/
namespace Go.Proofs.Ytloabkgojopeaaa
open Go.RowKit

set_option maxRecDepth 100000 in
set_option maxHeartbeats 8000000 in
theorem turned_any (ao : Option Addr) (ca n a : Nat) (l : List Int) (w : World) (hL : Lst w ao n ca l) (hn : n ≤ 17592186043904) (ha : a < n ∨ (n = 0 ∧ a = 0)) :
    Calls Try.prog 43 #[.slice ao n ca, .int .i64 (a : Int)] w (ListPost (Ro.turn l a) w) := by
  have HL := Nu.hid hL
  have HLL := Nu.hid hL.len
  have HA := Nu.hid (Ro.turnTo_all (l := l) (a := a) (by
    rcases ha with h | ⟨h1, h2⟩
    · exact .inl (by rw [hL.len]; exact h)
    · exact .inr ⟨List.length_eq_zero_iff.1 (by rw [hL.len]; exact h1), h2⟩))
  clear hL
  go_enter Try.func43, Try.ntmps43
  go_wp2
  go_loopw [5, 6] (fun c d wr => ∃ k : Nat, k ≤ n ∧ d = .int .i64 (k : Int) ∧ OwnZ wr w.heap.size c (Ro.turnTo l a k) ∧ Below w.heap.size w wr) (fun _ d _ => n - (intOf d).toNat)
  case atStart => exact ⟨0, Nat.zero_le _, rfl, OwnZ.nil _ _, Below.refl _ _⟩
  case round =>
    obtain ⟨k, hk, rfl, ho, hb⟩ := hrel
    have HO := Nu.hid ho
    have HB := Nu.hid hb
    have hbs := hb.size
    clear ho hb
    by_cases hlt : k < n
    · have hlti : (k : Int) < (n : Int) := by omega
      have hk0 : (0 : Int) ≤ (k : Int) := by omega
      obtain ⟨q, hq⟩ : ∃ q, q = (a + k) % n := ⟨_, rfl⟩
      have hqn : q < n := by rw [hq]; exact Nat.mod_lt _ (by omega)
      have hqm : ((a : Int) + (k : Int)).tmod (n : Int) = (q : Int) := by
        rw [Int.tmod_eq_emod_of_nonneg (by omega), hq]
        exact (Int.natCast_emod (a + k) n).symm
      have hqm2 : ((a : Int) + (k : Int)) % (n : Int) = (q : Int) := by
        rw [hq]
        exact (Int.natCast_emod (a + k) n).symm
      obtain ⟨y, hy⟩ : ∃ y, l[q]? = some y := ⟨_, List.getElem?_eq_getElem (by have := HLL.out; omega)⟩
      obtain ⟨lb, lo', rfl, lc⟩ := (HL.out.later HB.out).elem hy
      have hst : Ro.turnTo l a (k + 1) = Ro.turnTo l a k ++ [y] := by
        show Ro.turnTo l a k ++ [l.getD ((a + k) % l.length) 0] = _
        rw [HLL.out, ← hq, List.getD_eq_getElem?_getD, hy]
        rfl
      have HST := Nu.hid hst
      have hq0 : (0 : Int) ≤ (q : Int) := by omega
      have hqn2 : (q : Int) < (n : Int) := by omega
      have hlz : ((n : Int) == 0) = false := beq_false_of_ne (by omega)
      have hwa : IntKind.i64.wrap ((a : Int) + (k : Int)) = (a : Int) + (k : Int) := by rw [IntKind.wrap_i64]; omega
      have hwq : IntKind.i64.wrap (q : Int) = (q : Int) := by rw [IntKind.wrap_i64]; omega
      have htl := Ro.turnTo_len l a k
      have HTL := Nu.hid htl
      clear hq hy hst htl
      go_wp2_with (at_builtin; refine wpList_push rfl _ _ rfl wr w.heap.size _ (Ro.turnTo l a k) y HO.out hbs (by have := HTL.out; omega) rfl rfl ?_; refine Hid.out ?_)
      refine Nu.hid ?_
      intro v' w' ho' _ _ hb'
      have HO' := Nu.hid (show OwnZ w' w.heap.size v' (Ro.turnTo l a (k + 1)) by rw [HST.out]; exact ho')
      have HB' := Nu.hid (HB.out.trans hb')
      clear ho' hb'
      go_wp2
      go_roundw
      case rel => exact ⟨k + 1, by omega, by go_num, HO'.out, HB'.out⟩
      case measure => simp [intOf]; omega
    · have hlti : ¬ (k : Int) < (n : Int) := by omega
      obtain rfl : k = n := by omega
      go_wp2
      go_ret
      have h1 := HO.out
      rw [← HLL.out, HA.out] at h1
      exact ⟨_, rfl, h1, HB.out⟩

theorem Ro.map_snoc {f : List Int → List Int} {ls : List (List Int)} {k : Nat} {l : List Int} (h : ls[k]? = some l) : (ls.take (k + 1)).map f = (ls.take k).map f ++ [f l] := by
  rw [List.take_add_one, h]
  simp

set_option maxRecDepth 100000 in
set_option maxHeartbeats 8000000 in
theorem r11canon_any (xo : Option Addr) (xc : Nat) (ls : List (List Int)) (w : World) (hx : RwsAt w xo ls) (hl : ls.length ≤ 5864062014805) :
    Calls Try.prog 24 #[.slice xo ls.length xc] w (RowsPost (ls.map Ro.canon1) w) := by
  have HX := Nu.hid hx
  obtain ⟨N, hN⟩ : ∃ N, N = ls.length := ⟨_, rfl⟩
  rw [← hN] at hl ⊢
  have HN := Nu.hid hN
  clear hx hN
  go_enter Try.func24, Try.ntmps24
  go_wp2
  go_loopw [3, 4] (fun c d wr => ∃ (k : Nat) (vs : List Value), k ≤ N ∧ d = .int .i64 (k : Int) ∧ RowsZ wr w.heap.size c vs ((ls.take k).map Ro.canon1) ∧ Below w.heap.size w wr) (fun _ d _ => N - (intOf d).toNat)
  case atStart => exact ⟨0, [], Nat.zero_le _, rfl, RowsZ.nil _ _, Below.refl _ _⟩
  case round =>
    obtain ⟨k, vs, hk, rfl, hr, hb⟩ := hrel
    obtain ⟨W0, rfl⟩ : ∃ W0, W0 = wr := ⟨_, rfl⟩
    have HR := Nu.hid hr
    have HB := Nu.hid hb
    have hws := hb.size
    obtain ⟨uo, uc, rfl⟩ := row_shape hr
    generalize hql : ((ls.take k).map Ro.canon1).length = ql at *
    have HQL := Nu.hid hql
    clear hr hb hql
    by_cases hlt : k < N
    · have hlti : (k : Int) < (N : Int) := by omega
      have hk0 : (0 : Int) ≤ (k : Int) := by omega
      obtain ⟨l, hlk⟩ : ∃ l, ls[k]? = some l := ⟨_, List.getElem?_eq_getElem (by have := HN.out; omega)⟩
      obtain ⟨b, o, A, C, rfl, hc, hL, hln, hlc, hCb⟩ := HX.out k l hlk
      have hbl : b < w.heap.size := block_lt_of_cell hc
      have hcr := (HB.out.cell (p := ⟨b, o + k, none⟩) hbl).trans hc
      have HLW := Nu.hid (hL.later HB.out)
      obtain ⟨p1, hp1⟩ : ∃ p1, l.length = p1 := ⟨_, rfl⟩
      rw [hp1] at hcr hln hlc HLW
      have HLK := Nu.hid hlk
      have HP1 := Nu.hid hp1
      clear hc hL hlk hp1
      go_wp2
      go_loopw [5, 6] (fun c5 c6 w5 => ∃ i q : Nat, i ≤ p1 ∧ c6 = .int .i64 (i : Int) ∧ q = Ro.at' l i ∧ c5 = .int .i64 (q : Int) ∧ Below W0.heap.size W0 w5) (fun _ c6 _ => p1 - (intOf c6).toNat)
      case atStart => exact ⟨0, 0, Nat.zero_le _, rfl, rfl, rfl, Below.refl _ _⟩
      case round =>
        obtain ⟨i, q, hi, rfl, hq, rfl, hb5⟩ := hrel
        have hc5 := (hb5.cell (p := ⟨b, o + k, none⟩) (block_lt_of_cell hcr)).trans hcr
        have HB5 := Nu.hid hb5
        have HQ := Nu.hid hq
        have hqi := Ro.at_le l i
        rw [← hq] at hqi
        clear hb5 hq
        by_cases hil : i < p1
        · have hili : (i : Int) < (p1 : Int) := by omega
          have hi0 : (0 : Int) ≤ (i : Int) := by omega
          obtain ⟨x, hxi⟩ : ∃ x, l[i]? = some x := ⟨_, List.getElem?_eq_getElem (by have := HP1.out; omega)⟩
          obtain ⟨y, hyq⟩ : ∃ y, l[q]? = some y := ⟨_, List.getElem?_eq_getElem (by have := HP1.out; omega)⟩
          obtain ⟨lb, lo', rfl, lc⟩ := (HLW.out.later HB5.out).elem hxi
          obtain ⟨lb', lo'', e, lc'⟩ := (HLW.out.later HB5.out).elem hyq
          cases e
          have hq0 : (0 : Int) ≤ (q : Int) := by omega
          have hqp : (q : Int) < (p1 : Int) := by omega
          have hstep : Ro.at' l (i + 1) = if x < y then i else q := by
            show (if l.getD i 0 < l.getD (Ro.at' l i) 0 then i else Ro.at' l i) = _
            rw [← HQ.out, List.getD_eq_getElem?_getD, List.getD_eq_getElem?_getD, hxi, hyq]
            rfl
          by_cases hxy : x < y
          · have HS : Hid (i = Ro.at' l (i + 1)) := by show _ = _; rw [hstep, if_pos hxy]
            clear hstep hxi hyq
            go_wp2_with fail
            go_quiet (fail)
            go_wp2
            go_roundw
            case rel => exact ⟨i + 1, i, by omega, by go_num, HS.out, rfl, below_drewN HB5.out _⟩
            case measure => simp [intOf]; omega
          · have HS : Hid (q = Ro.at' l (i + 1)) := by show _ = _; rw [hstep, if_neg hxy]
            clear hstep hxi hyq
            go_wp2_with fail
            go_quiet (fail)
            go_wp2
            go_roundw
            case rel => exact ⟨i + 1, q, by omega, by go_num, HS.out, rfl, below_drewN HB5.out _⟩
            case measure => simp [intOf]; omega
        · have hili : ¬ (i : Int) < (p1 : Int) := by omega
          obtain rfl : i = p1 := by omega
          have HT := Nu.hid (turned_any A C i q l wr (HLW.out.later HB5.out) hln (by
            by_cases h0 : i = 0
            · exact .inr ⟨h0, by omega⟩
            · have := Ro.at_lt l i (by omega)
              rw [← HQ.out] at this
              exact .inl this))
          go_wp2_with (go_at_call 43; refine HT.out.mono ?_; refine Hid.out ?_)
          refine Nu.hid ?_
          rintro e V1 ⟨v', rfl, ho, hb1⟩
          have hce : Ro.turn l q = Ro.canon1 l := by
            rw [HQ.out]
            unfold Ro.canon1
            rw [HP1.out]
          rw [hce] at ho
          have hbV := HB5.out.trans (hb1.mono HB5.out.size)
          have HOV := Nu.hid (ho.lower HB5.out.size)
          obtain ⟨A1, C1, e1, -, -⟩ := ho.form
          subst e1
          generalize (Ro.canon1 l).length = q1 at *
          have HBV := Nu.hid hbV
          clear ho hb1 hbV hce
          go_wp2_with (at_builtin; refine wpList_pushRow rfl _ _ 24 Try.underlying24 rfl W0 V1 w.heap.size (.slice uo ql uc) vs ((ls.take k).map Ro.canon1) (.slice A1 q1 C1) (Ro.canon1 l) HR.out HBV.out HOV.out hws (by rw [HQL.out]; have := HQL.out; simp at this; omega) rfl rfl ?_; refine Hid.out ?_)
          refine Nu.hid ?_
          intro v2 w2 hr2 hb2
          have HR2 := Nu.hid (show RowsZ w2 w.heap.size v2 (vs ++ [.slice A1 q1 C1]) ((ls.take (k + 1)).map Ro.canon1) by
            rw [Ro.map_snoc (f := Ro.canon1) HLK.out, List.map_take]
            exact hr2)
          have HB2 := Nu.hid (HB.out.trans hb2)
          clear hr2 hb2
          go_wp2
          go_roundw
          case rel => exact ⟨k + 1, _, by omega, by go_num, HR2.out, HB2.out⟩
          case measure => simp [intOf]; omega
    · have hlti : ¬ (k : Int) < (N : Int) := by omega
      obtain rfl : k = N := by omega
      go_wp2
      go_ret
      have h1 := HR.out
      rw [HN.out, List.take_length] at h1
      exact ⟨_, _, rfl, h1, HB.out⟩

theorem Ro.rev_snoc {l : List Int} {i : Nat} {x : Int} (hi : i < l.length) (h : l[l.length - 1 - i]? = some x) : l.reverse.take (i + 1) = l.reverse.take i ++ [x] := by
  refine Ro.take_snoc' ?_
  rw [List.getElem?_reverse hi]
  exact h

set_option maxRecDepth 100000 in
set_option maxHeartbeats 8000000 in
theorem r11mirror_any (xo : Option Addr) (xc : Nat) (ls : List (List Int)) (w : World) (hx : RwsAt w xo ls) (hl : ls.length ≤ 5864062014805) :
    Calls Try.prog 25 #[.slice xo ls.length xc] w (RowsPost (ls.map fun l => Ro.canon1 l.reverse) w) := by
  have HX := Nu.hid hx
  obtain ⟨N, hN⟩ : ∃ N, N = ls.length := ⟨_, rfl⟩
  rw [← hN] at hl ⊢
  have HN := Nu.hid hN
  clear hx hN
  go_enter Try.func25, Try.ntmps25
  go_wp2
  go_loopw [3, 4] (fun c d wr => ∃ (k : Nat) (vs : List Value), k ≤ N ∧ d = .int .i64 (k : Int) ∧ RowsZ wr w.heap.size c vs ((ls.take k).map List.reverse) ∧ Below w.heap.size w wr) (fun _ d _ => N - (intOf d).toNat)
  case atStart => exact ⟨0, [], Nat.zero_le _, rfl, RowsZ.nil _ _, Below.refl _ _⟩
  case round =>
    obtain ⟨k, vs, hk, rfl, hr, hb⟩ := hrel
    obtain ⟨W0, rfl⟩ : ∃ W0, W0 = wr := ⟨_, rfl⟩
    have HR := Nu.hid hr
    have HB := Nu.hid hb
    have hws := hb.size
    obtain ⟨uo, uc, rfl⟩ := row_shape hr
    generalize hql : ((ls.take k).map List.reverse).length = ql at *
    have HQL := Nu.hid hql
    clear hr hb hql
    by_cases hlt : k < N
    · have hlti : (k : Int) < (N : Int) := by omega
      have hk0 : (0 : Int) ≤ (k : Int) := by omega
      obtain ⟨l, hlk⟩ : ∃ l, ls[k]? = some l := ⟨_, List.getElem?_eq_getElem (by have := HN.out; omega)⟩
      obtain ⟨b, o, A, C, rfl, hc, hL, hln, hlc, hCb⟩ := HX.out k l hlk
      have hbl : b < w.heap.size := block_lt_of_cell hc
      have hcr := (HB.out.cell (p := ⟨b, o + k, none⟩) hbl).trans hc
      have HLW := Nu.hid (hL.later HB.out)
      obtain ⟨p1, hp1⟩ : ∃ p1, l.length = p1 := ⟨_, rfl⟩
      rw [hp1] at hcr hln hlc HLW
      have HLK := Nu.hid hlk
      have HP1 := Nu.hid hp1
      clear hc hL hlk hp1
      go_wp2
      go_loopw [5, 6] (fun c5 c6 w5 => ∃ i : Nat, i ≤ p1 ∧ c6 = .int .i64 ((p1 : Int) - 1 - (i : Int)) ∧ OwnZ w5 W0.heap.size c5 (l.reverse.take i) ∧ Below W0.heap.size W0 w5) (fun _ c6 _ => ((intOf c6) + 1).toNat)
      case atStart => exact ⟨0, Nat.zero_le _, by simp, OwnZ.nil _ _, Below.refl _ _⟩
      case round =>
        obtain ⟨i, hi, rfl, ho5, hb5⟩ := hrel
        have hc5 := (hb5.cell (p := ⟨b, o + k, none⟩) (block_lt_of_cell hcr)).trans hcr
        have HB5 := Nu.hid hb5
        have HO5 := Nu.hid ho5
        have hs5 := hb5.size
        obtain ⟨ro, rc, erow, -, -⟩ := ho5.form
        subst erow
        generalize hrl : (l.reverse.take i).length = rl at *
        have HRL := Nu.hid hrl
        clear hb5 ho5 hrl
        by_cases hil : i < p1
        · obtain ⟨j, hj⟩ : ∃ j : Nat, (p1 : Int) - 1 - (i : Int) = (j : Int) := ⟨p1 - 1 - i, by omega⟩
          have hje : j = p1 - 1 - i := by omega
          rw [hj]
          obtain ⟨x, hxi⟩ : ∃ x, l[j]? = some x := ⟨_, List.getElem?_eq_getElem (by have := HP1.out; omega)⟩
          obtain ⟨lb, lo', rfl, lc⟩ := (HLW.out.later HB5.out).elem hxi
          have HS := Nu.hid (Ro.rev_snoc (l := l) (i := i) (x := x) (by have := HP1.out; omega) (by rw [HP1.out, ← hje]; exact hxi))
          have hj0 : (0 : Int) ≤ (j : Int) := by omega
          have hjp : (j : Int) < (p1 : Int) := by omega
          have HJ := Nu.hid hj
          clear hj hje hxi
          go_wp2_with (at_builtin; refine wpList_push rfl _ _ rfl wr W0.heap.size _ (l.reverse.take i) x HO5.out hs5 (by rw [HRL.out]; have := HRL.out; rw [List.length_take] at this; omega) rfl rfl ?_; refine Hid.out ?_)
          refine Nu.hid ?_
          intro v' w' ho' _ _ hb'
          have HO' := Nu.hid (show OwnZ w' W0.heap.size v' (l.reverse.take (i + 1)) by rw [HS.out]; exact ho')
          have HB' := Nu.hid (HB5.out.trans hb')
          clear ho' hb'
          go_wp2
          go_roundw
          case rel =>
            have hj := HJ.out
            refine ⟨i + 1, by omega, ?_, HO'.out, HB'.out⟩
            congr 1
            omega
          case measure => first | (simp [intOf]; done) | (simp [intOf]; omega)
        · obtain rfl : i = p1 := by omega
          have hm1 : (i : Int) - 1 - (i : Int) = -1 := by omega
          rw [hm1]
          have HOV : Hid (OwnZ wr W0.heap.size (.slice ro rl rc) l.reverse) := by
            have := HO5.out
            rw [List.take_of_length_le (by rw [List.length_reverse, HP1.out]; exact Nat.le_refl _)] at this
            exact this
          go_wp2_with (at_builtin; refine wpList_pushRow rfl _ _ 24 Try.underlying24 rfl W0 wr w.heap.size (.slice uo ql uc) vs ((ls.take k).map List.reverse) (.slice ro rl rc) l.reverse HR.out HB5.out HOV.out hws (by rw [HQL.out]; have := HQL.out; rw [List.length_map, List.length_take] at this; omega) rfl rfl ?_; refine Hid.out ?_)
          refine Nu.hid ?_
          intro v2 w2 hr2 hb2
          have HR2 := Nu.hid (show RowsZ w2 w.heap.size v2 (vs ++ [.slice ro rl rc]) ((ls.take (k + 1)).map List.reverse) by
            rw [Ro.map_snoc (f := List.reverse) HLK.out]
            first | exact hr2 | (rw [List.map_take]; exact hr2))
          have HB2 := Nu.hid (HB.out.trans hb2)
          clear hr2 hb2
          go_wp2
          go_roundw
          case rel => exact ⟨k + 1, _, by omega, by go_num, HR2.out, HB2.out⟩
          case measure => simp [intOf]; omega
    · have hlti : ¬ (k : Int) < (N : Int) := by omega
      obtain rfl : k = N := by omega
      have h1 := HR.out
      rw [HN.out, List.take_length] at h1
      obtain ⟨yo, yc, e, hy, -⟩ := h1.rws (by
        intro m hm
        obtain ⟨l, hl, rfl⟩ := List.mem_map.1 hm
        obtain ⟨v, hv⟩ := List.mem_iff_getElem?.1 hl
        obtain ⟨_, _, _, _, _, _, _, hln, _⟩ := HX.out v l hv
        rw [List.length_reverse]
        exact hln)
      have HC := Nu.hid (r11canon_any yo yc (ls.map List.reverse) W0 hy (by rw [List.length_map, ← HN.out]; exact hl))
      rw [← e] at HC
      clear h1 hy e
      go_wp2_with (go_at_call 24; refine HC.out.mono ?_; refine Hid.out ?_)
      refine Nu.hid ?_
      rintro e V1 ⟨v', vs', rfl, hr1, hb1⟩
      have HR1 := Nu.hid hr1
      have HB1 := Nu.hid (HB.out.trans (hb1.mono HB.out.size))
      clear hr1 hb1
      go_wp2
      go_ret
      have h2 := HR1.out
      exact ⟨_, _, rfl, h2.lower hws, HB1.out⟩

end Go.Proofs.Ytloabkgojopeaaa
