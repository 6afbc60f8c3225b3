/-
  The document's own Check, of any graph and lists.
-/
import Derived.Test.YtfkmldopfhdbkaaRoSt
import Derived.Test.YtfkmldopfhdbkaaMg09
import Derived.Test.YtfkmldopfhdbkaaLwQ
import Derived.Test.YtfkmldopfhdbkaaSiRValid
namespace Go.Proofs.Ytfkmldopfhdbkaa
open Go.RowKit Go.Sort

theorem Ro.check_of {es : List (Int × Int)} {ls : List (List Int)} (hv : Si.valid (ls.length : Int) es = true) : Ro.check (ls.length : Int) es ls = Ro.chk es 0 ls := by simp [Ro.check, hv]

set_option maxRecDepth 100000 in
set_option maxHeartbeats 8000000 in
theorem r11check_any (n : Int) (ao : Option Addr) (ca : Nat) (es : List (Int × Int)) (xo : Option Addr) (xc : Nat) (ls : List (List Int)) (w : World) (he : EdgesAt w ao es) (hl : es.length ≤ 4611686018427387904) (hx : RwsAt w xo ls) :
    Calls Try.prog 68 #[graphVal n ao es.length ca, .slice xo ls.length xc] w fun e w' => e = .returned (.tuple #[.int .i64 ((Ro.check n es ls).1 : Int), .int .i64 (Ro.check n es ls).2]) ∧ Below w.heap.size w w' := by
  have hb0 : Below w.heap.size w (w.alloc (.cells #[.int .i64 n, .slice ao es.length ca] 24)) := (Below.refl _ _).alloc (Nat.le_refl _) _
  have HV0 := Nu.hid (rvalid_any n ao ca es _ (he.later hb0) hl)
  have HE := Nu.hid he
  have HX := Nu.hid hx
  have HB0 := Nu.hid hb0
  unfold graphVal at HV0 ⊢
  clear he hx hb0
  cases hv : Si.valid n es with
  | false =>
    rw [hv] at HV0
    have HCK : Hid (Ro.check n es ls = (0, 1)) := by show _ = _; simp [Ro.check, hv]
    clear hv
    go_enter Try.func68, Try.ntmps68
    go_wp2_with (go_at_call 52; refine HV0.out.mono ?_; rintro e w' ⟨rfl, hb⟩; refine Hid.out ?_)
    refine Nu.hid ?_
    have HB := Nu.hid (HB0.out.trans (hb.mono HB0.out.size))
    clear hb
    go_wp2
    go_ret2
    exact ⟨by rw [HCK.out]; rfl, HB.out⟩
  | true =>
    rw [hv] at HV0
    have hval := Si.valid_iff.1 hv
    have hhi := hval.hi
    have hlo := hval.lo
    have hfew := hval.few
    obtain ⟨m, rfl⟩ : ∃ m : Nat, n = (m : Int) := ⟨n.toNat, by omega⟩
    have HVAL := Nu.hid hval
    by_cases hk : ls.length = m
    · subst hk
      have HCK := Nu.hid (Ro.check_of hv)
      clear hv hval
      go_enter Try.func68, Try.ntmps68
      go_wp2_with (go_at_call 52; refine HV0.out.mono ?_; rintro e w1 ⟨rfl, hb⟩; refine Hid.out ?_)
      refine Nu.hid ?_
      have HG0 : Hid (w1.heap[w.heap.size]? = some (.cells #[.int .i64 (ls.length : Int), .slice ao es.length ca] 24 (0, 0))) := (hb.block _ (by simp)).trans (heap_alloc_new w _)
      obtain ⟨g0, g1, -⟩ := pair_cells HG0.out
      have HB1 := Nu.hid (HB0.out.trans (hb.mono HB0.out.size))
      clear hb
      go_wp2
      clear g0 g1
      go_loopw [6] (fun c wr => ∃ k : Nat, k ≤ ls.length ∧ c = .int .i64 (k : Int) ∧ Ro.chk es 0 ls = Ro.chk es k (ls.drop k) ∧ wr.heap[w.heap.size]? = some (.cells #[.int .i64 (ls.length : Int), .slice ao es.length ca] 24 (0, 0)) ∧ Below w.heap.size w wr) (fun c _ => ls.length - (intOf c).toNat)
      case atStart => exact ⟨0, Nat.zero_le _, rfl, rfl, HG0.out, HB1.out⟩
      case round =>
        obtain ⟨k, hk, rfl, hch, hg, hb⟩ := hrel
        have HCH := Nu.hid hch
        have HB := Nu.hid hb
        have HG := Nu.hid hg
        obtain ⟨g0, g1, -⟩ := pair_cells hg
        clear hch hb hg
        by_cases hlt : k < ls.length
        · have hlti : (k : Int) < (ls.length : Int) := by omega
          have hk0 : (0 : Int) ≤ (k : Int) := by omega
          obtain ⟨l, hlk⟩ : ∃ l, ls[k]? = some l := ⟨_, List.getElem?_eq_getElem hlt⟩
          obtain ⟨b, o, A, C, rfl, hc, hL, hln, -⟩ := HX.out k l hlk
          have hbl : b < w.heap.size := block_lt_of_cell hc
          have HL := Nu.hid hL
          have HLK := Nu.hid hlk
          have HC := Nu.hid hc
          clear hc hL hlk
          go_wp2
          clear g0 g1
          go_loopw [7] (fun c wr => ∃ i : Nat, i ≤ l.length ∧ c = .int .i64 (i : Int) ∧ Ro.elt es k [] l = Ro.elt es k (l.take i) (l.drop i) ∧ wr.heap[w.heap.size]? = some (.cells #[.int .i64 (ls.length : Int), .slice ao es.length ca] 24 (0, 0)) ∧ Below w.heap.size w wr) (fun c _ => l.length - (intOf c).toNat)
          case atStart => exact ⟨0, Nat.zero_le _, rfl, rfl, HG.out, HB.out⟩
          case round =>
            clear HB HG
            obtain ⟨i, hi, rfl, hel, hg, hb⟩ := hrel
            have HEL := Nu.hid hel
            have HB := Nu.hid hb
            have HG := Nu.hid hg
            obtain ⟨g0, g1, -⟩ := pair_cells hg
            have hsg := lt_of_block hg
            have hcr := (hb.cell (p := ⟨b, o + k, none⟩) hbl).trans HC.out
            have hbr : b < wr.heap.size := block_lt_of_cell hcr
            clear hel hb hg
            have hne := LW.any wr
            have k0 : ∀ D : LW wr, D.val.cell? ⟨w.heap.size, 0, none⟩ = some (.int .i64 (ls.length : Int)) := fun D => (D.h.cell (p := ⟨w.heap.size, 0, none⟩) hsg).trans g0
            have k1 : ∀ D : LW wr, D.val.cell? ⟨w.heap.size, 1, none⟩ = some (.slice ao es.length ca) := fun D => (D.h.cell (p := ⟨w.heap.size, 1, none⟩) hsg).trans g1
            have k2 : ∀ D : LW wr, D.val.cell? ⟨b, o + k, none⟩ = some (.slice A l.length C) := fun D => (D.h.cell (p := ⟨b, o + k, none⟩) hbr).trans hcr
            by_cases hil : i < l.length
            · have hili : (i : Int) < (l.length : Int) := by omega
              have hi0 : (0 : Int) ≤ (i : Int) := by omega
              obtain ⟨h, hh⟩ : ∃ h, l[i]? = some h := ⟨_, List.getElem?_eq_getElem hil⟩
              obtain ⟨lb, lo', rfl, lc⟩ := HL.out.elem hh
              have hlbl : lb < w.heap.size := block_lt_of_cell lc
              have hlc := (HB.out.cell (p := ⟨lb, lo' + i, none⟩) hlbl).trans lc
              have hlbr : lb < wr.heap.size := block_lt_of_cell hlc
              have k3 : ∀ D : LW wr, D.val.cell? ⟨lb, lo' + i, none⟩ = some (.int .i64 h) := fun D => (D.h.cell (p := ⟨lb, lo' + i, none⟩) hlbr).trans hlc
              have HLV := Nu.hid (fun (D : LW wr) => r11leaves_any ls.length ao ca es h k D.val ((HE.out.later HB.out).later D.h) HVAL.out)
              have HH := Nu.hid hh
              clear hh lc
              cases hlv : Ro.lv es h k with
              | false =>
                have HLV1 : Hid (∀ D : LW wr, Calls Try.prog 77 #[.agg #[.int .i64 (ls.length : Int), .slice ao es.length ca], .int .i64 h, .int .i64 (k : Int)] D.val fun e w' => e = .returned (.bool false) ∧ Below D.val.heap.size D.val w') := fun D => (HLV.out D).mono fun e w' hh => ⟨by rw [hh.1, hlv], hh.2⟩
                have HLVF := Nu.hid hlv
                clear hlv HLV
                go_wp2_with fail
                refine wp_region_lw (by kernel_rfl) (by kernel_rfl) ?_
                repeat (go_big_quiet_step ((go_at_call 77; exact Calls.lw (HLV1.out _))))
                refine wpQuiet_nil ?_
                rintro _ ⟨D, rfl⟩
                have HBD := Nu.hid (HB.out.trans (D.h.mono HB.out.size))
                generalize D.val = W at *
                clear k0 k1 k2 k3
                go_wp2
                go_ret2
                refine ⟨?_, HBD.out⟩
                rw [HCK.out, HCH.out, Ro.drop_cons HLK.out, Ro.chk_bad (Ro.vtx_elt (by rw [HEL.out, Ro.drop_cons HH.out, Ro.elt_half HLVF.out]) (by decide)) (by decide)]
                rfl
              | true =>
                have HLV1 : Hid (∀ D : LW wr, Calls Try.prog 77 #[.agg #[.int .i64 (ls.length : Int), .slice ao es.length ca], .int .i64 h, .int .i64 (k : Int)] D.val fun e w' => e = .returned (.bool true) ∧ Below D.val.heap.size D.val w') := fun D => (HLV.out D).mono fun e w' hh => ⟨by rw [hh.1, hlv], hh.2⟩
                have HLVT := Nu.hid hlv
                clear hlv HLV
                go_wp2_with fail
                refine wp_region_lw (by kernel_rfl) (by kernel_rfl) ?_
                repeat (go_big_quiet_step ((go_at_call 77; exact Calls.lw (HLV1.out _))))
                refine wpQuiet_nil ?_
                rintro _ ⟨D, rfl⟩
                have HBD := Nu.hid (HB.out.trans (D.h.mono HB.out.size))
                have HGD := Nu.hid ((D.h.block _ hsg).trans HG.out)
                have d2 := k2 D
                have d3 := k3 D
                generalize D.val = W at *
                clear k0 k1 k2 k3 hne hcr hlc g0 g1
                have hbW : b < W.heap.size := block_lt_of_cell d2
                have hlbW : lb < W.heap.size := block_lt_of_cell d3
                have hne := LW.any W
                have k2 : ∀ D : LW W, D.val.cell? ⟨b, o + k, none⟩ = some (.slice (some ⟨lb, lo', none⟩) l.length C) := fun D => (D.h.cell (p := ⟨b, o + k, none⟩) hbW).trans d2
                have k3 : ∀ D : LW W, D.val.cell? ⟨lb, lo' + i, none⟩ = some (.int .i64 h) := fun D => (D.h.cell (p := ⟨lb, lo' + i, none⟩) hlbW).trans d3
                have HSD := Nu.hid (fun (D : LW W) => stands_any (some ⟨lb, lo', none⟩) C l.length i l h D.val rfl (HL.out.ints.later (HBD.out.trans (D.h.mono HBD.out.size))) hi (by omega))
                cases hst : decide (h ∈ l.take i) with
                | true =>
                  have HSD1 : Hid (∀ D : LW W, Calls Try.prog 78 #[.slice (some ⟨lb, lo', none⟩) l.length C, .int .i64 (i : Int), .int .i64 h] D.val fun e w' => e = .returned (.bool true) ∧ Below D.val.heap.size D.val w') := fun D => (HSD.out D).mono fun e w' hh => ⟨by rw [hh.1, hst], by rw [hh.2]; exact Below.refl _ _⟩
                  have HST := Nu.hid hst
                  clear hst HSD
                  go_wp2_with fail
                  refine wp_region_lw (by kernel_rfl) (by kernel_rfl) ?_
                  repeat (go_big_quiet_step ((go_at_call 78; exact Calls.lw (HSD1.out _))))
                  refine wpQuiet_nil ?_
                  rintro _ ⟨D, rfl⟩
                  have HBE := Nu.hid (HBD.out.trans (D.h.mono HBD.out.size))
                  generalize D.val = W2 at *
                  clear k2 k3
                  go_wp2
                  go_ret2
                  refine ⟨?_, HBE.out⟩
                  rw [HCK.out, HCH.out, Ro.drop_cons HLK.out, Ro.chk_bad (Ro.vtx_elt (by rw [HEL.out, Ro.drop_cons HH.out, Ro.elt_twice HLVT.out (of_decide_eq_true HST.out)]) (by decide)) (by decide)]
                  rfl
                | false =>
                  have HSD1 : Hid (∀ D : LW W, Calls Try.prog 78 #[.slice (some ⟨lb, lo', none⟩) l.length C, .int .i64 (i : Int), .int .i64 h] D.val fun e w' => e = .returned (.bool false) ∧ Below D.val.heap.size D.val w') := fun D => (HSD.out D).mono fun e w' hh => ⟨by rw [hh.1, hst], by rw [hh.2]; exact Below.refl _ _⟩
                  have HST := Nu.hid hst
                  clear hst HSD
                  go_wp2_with fail
                  refine wp_region_lw (by kernel_rfl) (by kernel_rfl) ?_
                  repeat (go_big_quiet_step ((go_at_call 78; exact Calls.lw (HSD1.out _))))
                  refine wpQuiet_nil ?_
                  rintro _ ⟨D, rfl⟩
                  have HBE := Nu.hid (HBD.out.trans (D.h.mono HBD.out.size))
                  have HGE := Nu.hid ((D.h.block _ (lt_of_block HGD.out)).trans HGD.out)
                  have HEL2 := Nu.hid (show Ro.elt es k [] l = Ro.elt es k (l.take (i + 1)) (l.drop (i + 1)) by
                    rw [HEL.out, Ro.drop_cons HH.out, Ro.elt_on HLVT.out (of_decide_eq_false HST.out), Ro.take_snoc' HH.out])
                  generalize D.val = W2 at *
                  clear k2 k3
                  go_wp2
                  go_roundw
                  case rel => exact ⟨i + 1, by omega, by go_num, HEL2.out, HGE.out, HBE.out⟩
                  case measure => simp [intOf]; omega
            · have hili : ¬ (i : Int) < (l.length : Int) := by omega
              obtain rfl : i = l.length := by omega
              have HEL0 := Nu.hid (show Ro.elt es k [] l = 0 by rw [HEL.out]; simp [Ro.elt])
              have HDG := Nu.hid (fun (D : LW wr) => r11degree_any ls.length ao ca es k D.val ((HE.out.later HB.out).later D.h) HVAL.out)
              obtain ⟨dg, hdg⟩ : ∃ dg, dg = Ro.deg es k := ⟨_, rfl⟩
              rw [← hdg] at HDG
              have HDGE := Nu.hid hdg
              clear hdg
              by_cases hd : l.length < dg
              · have t1 : decide ((l.length : Int) < (dg : Int)) = true := by simp; omega
                have t2 : (l.length : Int) < (dg : Int) := by omega
                go_wp2_with fail
                refine wp_region_lw (by kernel_rfl) (by kernel_rfl) ?_
                repeat (go_big_quiet_step ((go_at_call 79; exact Calls.lw (HDG.out _))))
                refine wpQuiet_nil ?_
                rintro _ ⟨D, rfl⟩
                have HBD := Nu.hid (HB.out.trans (D.h.mono HB.out.size))
                generalize D.val = W at *
                clear k0 k1 k2
                go_wp2
                go_ret2
                refine ⟨?_, HBD.out⟩
                rw [HCK.out, HCH.out, Ro.drop_cons HLK.out, Ro.chk_bad (Ro.vtx_missing HEL0.out (by have := HDGE.out; omega)) (by decide)]
                rfl
              · have t1 : decide ((l.length : Int) < (dg : Int)) = false := by simp; omega
                have t2 : ¬ (l.length : Int) < (dg : Int) := by omega
                have HCH2 := Nu.hid (show Ro.chk es 0 ls = Ro.chk es (k + 1) (ls.drop (k + 1)) by
                  rw [HCH.out, Ro.drop_cons HLK.out, Ro.chk_on (Ro.vtx_ok HEL0.out (by have := HDGE.out; omega))])
                go_wp2_with fail
                refine wp_region_lw (by kernel_rfl) (by kernel_rfl) ?_
                repeat (go_big_quiet_step ((go_at_call 79; exact Calls.lw (HDG.out _))))
                refine wpQuiet_nil ?_
                rintro _ ⟨D, rfl⟩
                have HBD := Nu.hid (HB.out.trans (D.h.mono HB.out.size))
                have HGD := Nu.hid ((D.h.block _ hsg).trans HG.out)
                generalize D.val = W at *
                clear k0 k1 k2
                go_wp2
                go_roundw
                case rel => exact ⟨k + 1, by omega, by go_num, HCH2.out, HGD.out, HBD.out⟩
                case measure => simp [intOf]; omega
        · have hlti : ¬ (k : Int) < (ls.length : Int) := by omega
          obtain rfl : k = ls.length := by omega
          go_wp2
          go_ret2
          refine ⟨?_, HB.out⟩
          rw [HCK.out, HCH.out]
          simp [Ro.chk]
    · have j1 : ((ls.length : Int) != (m : Int)) = true := by simp; omega
      have HCK : Hid (Ro.check (m : Int) es ls = (0, 110)) := by
        show _ = _
        unfold Ro.check
        rw [if_pos hv, if_pos (by omega)]
      clear hv hval hk
      go_enter Try.func68, Try.ntmps68
      go_wp2_with (go_at_call 52; refine HV0.out.mono ?_; rintro e w1 ⟨rfl, hb⟩; refine Hid.out ?_)
      refine Nu.hid ?_
      have HG0 : Hid (w1.heap[w.heap.size]? = some (.cells #[.int .i64 (m : Int), .slice ao es.length ca] 24 (0, 0))) := (hb.block _ (by simp)).trans (heap_alloc_new w _)
      obtain ⟨g0, g1, -⟩ := pair_cells HG0.out
      have HB1 := Nu.hid (HB0.out.trans (hb.mono HB0.out.size))
      clear hb
      go_wp2
      go_ret2
      exact ⟨by rw [HCK.out]; rfl, HB1.out⟩

end Go.Proofs.Ytfkmldopfhdbkaa
