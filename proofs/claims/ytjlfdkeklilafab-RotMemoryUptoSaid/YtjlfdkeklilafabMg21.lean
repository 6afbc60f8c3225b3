import Derived.Test.YtjlfdkeklilafabMg20
import Derived.Test.YtjlfdkeklilafabMg04
import Derived.Test.YtjlfdkeklilafabMg08
import Derived.Test.YtjlfdkeklilafabMg01
import Derived.Test.YtjlfdkeklilafabMg07
import Derived.Test.YtjlfdkeklilafabMg09
import Derived.Test.YtjlfdkeklilafabMg18
/-
  The document's own Check, of any graph and lists.
-/
namespace Go.Proofs.Ytjlfdkeklilafab
open Go.RowKit Go.Sort

theorem Ro.check_of {es : List (Int × Int)} {ls : List (List Int)} (hv : Si.valid (ls.length : Int) es = true) : Ro.check (ls.length : Int) es ls = Ro.chk es 0 ls := by simp [Ro.check, hv]

set_option maxRecDepth 100000 in
set_option maxHeartbeats 8000000 in
theorem r11check_any (n : Int) (ao : Option Addr) (ca : Nat) (es : List (Int × Int)) (xo : Option Addr) (xc : Nat) (ls : List (List Int)) (w : World) (he : EdgesAt w ao es) (hl : es.length ≤ 4611686018427387904) (hx : RwsAt w xo ls) :
    Calls Try.prog 28 #[graphVal n ao es.length ca, .slice xo ls.length xc] w fun e w' => e = .returned (.tuple #[.int .i64 ((Ro.check n es ls).1 : Int), .int .i64 (Ro.check n es ls).2]) ∧ Below w.heap.size w w' := by
  have hb0 : Below w.heap.size w (w.alloc (.cells #[.int .i64 n, .slice ao es.length ca] 24)) := (Below.refl _ _).alloc (Nat.le_refl _) _
  have HV0 := Nu.hid (rvalid_any n ao ca es _ (he.later hb0) hl)
  have HE := Nu.hid he
  have HX := Nu.hid hx
  have HB0 := Nu.hid hb0
  unfold graphVal at HV0 ⊢
  clear he hx hb0
  cases hv : Si.valid n es with
  | false =>
    rw [hv] at HV0
    have HCK : Hid (Ro.check n es ls = (0, 1)) := by show _ = _; simp [Ro.check, hv]
    clear hv
    go_enter Try.func28, Try.ntmps28
    go_wp2_with (go_at_call 6; refine HV0.out.mono ?_; rintro e w' ⟨rfl, hb⟩; refine Hid.out ?_)
    refine Nu.hid ?_
    have HB := Nu.hid (HB0.out.trans (hb.mono HB0.out.size))
    clear hb
    go_wp2
    go_ret2
    exact ⟨by rw [HCK.out]; rfl, HB.out⟩
  | true =>
    rw [hv] at HV0
    have hval := Si.valid_iff.1 hv
    have hhi := hval.hi
    have hlo := hval.lo
    have hfew := hval.few
    obtain ⟨m, rfl⟩ : ∃ m : Nat, n = (m : Int) := ⟨n.toNat, by omega⟩
    have HVAL := Nu.hid hval
    by_cases hk : ls.length = m
    · subst hk
      have HCK := Nu.hid (Ro.check_of hv)
      clear hv hval
      go_enter Try.func28, Try.ntmps28
      go_wp2_with (go_at_call 6; refine HV0.out.mono ?_; rintro e w1 ⟨rfl, hb⟩; refine Hid.out ?_)
      refine Nu.hid ?_
      have HG0 : Hid (w1.heap[w.heap.size]? = some (.cells #[.int .i64 (ls.length : Int), .slice ao es.length ca] 24 (0, 0))) := (hb.block _ (by simp)).trans (heap_alloc_new w _)
      obtain ⟨g0, g1, -⟩ := pair_cells HG0.out
      have HB1 := Nu.hid (HB0.out.trans (hb.mono HB0.out.size))
      clear hb
      go_wp2
      clear g0 g1
      go_loopw [6] (fun c wr => ∃ k : Nat, k ≤ ls.length ∧ c = .int .i64 (k : Int) ∧ Ro.chk es 0 ls = Ro.chk es k (ls.drop k) ∧ wr.heap[w.heap.size]? = some (.cells #[.int .i64 (ls.length : Int), .slice ao es.length ca] 24 (0, 0)) ∧ Below w.heap.size w wr) (fun c _ => ls.length - (intOf c).toNat)
      case atStart => exact ⟨0, Nat.zero_le _, rfl, rfl, HG0.out, HB1.out⟩
      case round =>
        obtain ⟨k, hk, rfl, hch, hg, hb⟩ := hrel
        have HCH := Nu.hid hch
        have HB := Nu.hid hb
        have HG := Nu.hid hg
        obtain ⟨g0, g1, -⟩ := pair_cells hg
        clear hch hb hg
        by_cases hlt : k < ls.length
        · have hlti : (k : Int) < (ls.length : Int) := by omega
          have hk0 : (0 : Int) ≤ (k : Int) := by omega
          obtain ⟨l, hlk⟩ : ∃ l, ls[k]? = some l := ⟨_, List.getElem?_eq_getElem hlt⟩
          obtain ⟨b, o, A, C, rfl, hc, hL, hln, -⟩ := HX.out k l hlk
          have hbl : b < w.heap.size := block_lt_of_cell hc
          have HL := Nu.hid hL
          have HLK := Nu.hid hlk
          have HC := Nu.hid hc
          clear hc hL hlk
          go_wp2
          clear g0 g1
          go_loopw [7] (fun c wr => ∃ i : Nat, i ≤ l.length ∧ c = .int .i64 (i : Int) ∧ Ro.elt es k [] l = Ro.elt es k (l.take i) (l.drop i) ∧ wr.heap[w.heap.size]? = some (.cells #[.int .i64 (ls.length : Int), .slice ao es.length ca] 24 (0, 0)) ∧ Below w.heap.size w wr) (fun c _ => l.length - (intOf c).toNat)
          case atStart => exact ⟨0, Nat.zero_le _, rfl, rfl, HG.out, HB.out⟩
          case round =>
            clear HB HG
            obtain ⟨i, hi, rfl, hel, hg, hb⟩ := hrel
            have HEL := Nu.hid hel
            have HB := Nu.hid hb
            have HG := Nu.hid hg
            obtain ⟨g0, g1, -⟩ := pair_cells hg
            have hsg := lt_of_block hg
            have hcr := (hb.cell (p := ⟨b, o + k, none⟩) hbl).trans HC.out
            have hbr : b < wr.heap.size := block_lt_of_cell hcr
            clear hel hb hg
            have hne := LW.any wr
            have k0 : ∀ D : LW wr, D.val.cell? ⟨w.heap.size, 0, none⟩ = some (.int .i64 (ls.length : Int)) := fun D => (D.h.cell (p := ⟨w.heap.size, 0, none⟩) hsg).trans g0
            have k1 : ∀ D : LW wr, D.val.cell? ⟨w.heap.size, 1, none⟩ = some (.slice ao es.length ca) := fun D => (D.h.cell (p := ⟨w.heap.size, 1, none⟩) hsg).trans g1
            have k2 : ∀ D : LW wr, D.val.cell? ⟨b, o + k, none⟩ = some (.slice A l.length C) := fun D => (D.h.cell (p := ⟨b, o + k, none⟩) hbr).trans hcr
            by_cases hil : i < l.length
            · have hili : (i : Int) < (l.length : Int) := by omega
              have hi0 : (0 : Int) ≤ (i : Int) := by omega
              obtain ⟨h, hh⟩ : ∃ h, l[i]? = some h := ⟨_, List.getElem?_eq_getElem hil⟩
              obtain ⟨lb, lo', rfl, lc⟩ := HL.out.elem hh
              have hlbl : lb < w.heap.size := block_lt_of_cell lc
              have hlc := (HB.out.cell (p := ⟨lb, lo' + i, none⟩) hlbl).trans lc
              have hlbr : lb < wr.heap.size := block_lt_of_cell hlc
              have k3 : ∀ D : LW wr, D.val.cell? ⟨lb, lo' + i, none⟩ = some (.int .i64 h) := fun D => (D.h.cell (p := ⟨lb, lo' + i, none⟩) hlbr).trans hlc
              have HLV := Nu.hid (fun (D : LW wr) => r11leaves_any ls.length ao ca es h k D.val ((HE.out.later HB.out).later D.h) HVAL.out)
              have HH := Nu.hid hh
              clear hh lc
              cases hlv : Ro.lv es h k with
              | false =>
                have HLV1 : Hid (∀ D : LW wr, Calls Try.prog 41 #[.agg #[.int .i64 (ls.length : Int), .slice ao es.length ca], .int .i64 h, .int .i64 (k : Int)] D.val fun e w' => e = .returned (.bool false) ∧ Below D.val.heap.size D.val w') := fun D => (HLV.out D).mono fun e w' hh => ⟨by rw [hh.1, hlv], hh.2⟩
                have HLVF := Nu.hid hlv
                clear hlv HLV
                go_wp2_with fail
                refine wp_region_lw (by kernel_rfl) (by kernel_rfl) ?_
                repeat (go_big_quiet_step ((go_at_call 41; exact Calls.lw (HLV1.out _))))
                refine wpQuiet_nil ?_
                rintro _ ⟨D, rfl⟩
                have HBD := Nu.hid (HB.out.trans (D.h.mono HB.out.size))
                generalize D.val = W at *
                clear k0 k1 k2 k3
                go_wp2
                go_ret2
                refine ⟨?_, HBD.out⟩
                rw [HCK.out, HCH.out, Ro.drop_cons HLK.out, Ro.chk_bad (Ro.vtx_elt (by rw [HEL.out, Ro.drop_cons HH.out, Ro.elt_half HLVF.out]) (by decide)) (by decide)]
                rfl
              | true =>
                have HLV1 : Hid (∀ D : LW wr, Calls Try.prog 41 #[.agg #[.int .i64 (ls.length : Int), .slice ao es.length ca], .int .i64 h, .int .i64 (k : Int)] D.val fun e w' => e = .returned (.bool true) ∧ Below D.val.heap.size D.val w') := fun D => (HLV.out D).mono fun e w' hh => ⟨by rw [hh.1, hlv], hh.2⟩
                have HLVT := Nu.hid hlv
                clear hlv HLV
                go_wp2_with fail
                refine wp_region_lw (by kernel_rfl) (by kernel_rfl) ?_
                repeat (go_big_quiet_step ((go_at_call 41; exact Calls.lw (HLV1.out _))))
                refine wpQuiet_nil ?_
                rintro _ ⟨D, rfl⟩
                have HBD := Nu.hid (HB.out.trans (D.h.mono HB.out.size))
                have HGD := Nu.hid ((D.h.block _ hsg).trans HG.out)
                have d2 := k2 D
                have d3 := k3 D
                generalize D.val = W at *
                clear k0 k1 k2 k3 hne hcr hlc g0 g1
                have hbW : b < W.heap.size := block_lt_of_cell d2
                have hlbW : lb < W.heap.size := block_lt_of_cell d3
                have hne := LW.any W
                have k2 : ∀ D : LW W, D.val.cell? ⟨b, o + k, none⟩ = some (.slice (some ⟨lb, lo', none⟩) l.length C) := fun D => (D.h.cell (p := ⟨b, o + k, none⟩) hbW).trans d2
                have k3 : ∀ D : LW W, D.val.cell? ⟨lb, lo' + i, none⟩ = some (.int .i64 h) := fun D => (D.h.cell (p := ⟨lb, lo' + i, none⟩) hlbW).trans d3
                have HSD := Nu.hid (fun (D : LW W) => stands_any (some ⟨lb, lo', none⟩) C l.length i l h D.val rfl (HL.out.ints.later (HBD.out.trans (D.h.mono HBD.out.size))) hi (by omega))
                cases hst : decide (h ∈ l.take i) with
                | true =>
                  have HSD1 : Hid (∀ D : LW W, Calls Try.prog 42 #[.slice (some ⟨lb, lo', none⟩) l.length C, .int .i64 (i : Int), .int .i64 h] D.val fun e w' => e = .returned (.bool true) ∧ Below D.val.heap.size D.val w') := fun D => (HSD.out D).mono fun e w' hh => ⟨by rw [hh.1, hst], by rw [hh.2]; exact Below.refl _ _⟩
                  have HST := Nu.hid hst
                  clear hst HSD
                  go_wp2_with fail
                  refine wp_region_lw (by kernel_rfl) (by kernel_rfl) ?_
                  repeat (go_big_quiet_step ((go_at_call 42; exact Calls.lw (HSD1.out _))))
                  refine wpQuiet_nil ?_
                  rintro _ ⟨D, rfl⟩
                  have HBE := Nu.hid (HBD.out.trans (D.h.mono HBD.out.size))
                  generalize D.val = W2 at *
                  clear k2 k3
                  go_wp2
                  go_ret2
                  refine ⟨?_, HBE.out⟩
                  rw [HCK.out, HCH.out, Ro.drop_cons HLK.out, Ro.chk_bad (Ro.vtx_elt (by rw [HEL.out, Ro.drop_cons HH.out, Ro.elt_twice HLVT.out (of_decide_eq_true HST.out)]) (by decide)) (by decide)]
                  rfl
                | false =>
                  have HSD1 : Hid (∀ D : LW W, Calls Try.prog 42 #[.slice (some ⟨lb, lo', none⟩) l.length C, .int .i64 (i : Int), .int .i64 h] D.val fun e w' => e = .returned (.bool false) ∧ Below D.val.heap.size D.val w') := fun D => (HSD.out D).mono fun e w' hh => ⟨by rw [hh.1, hst], by rw [hh.2]; exact Below.refl _ _⟩
                  have HST := Nu.hid hst
                  clear hst HSD
                  go_wp2_with fail
                  refine wp_region_lw (by kernel_rfl) (by kernel_rfl) ?_
                  repeat (go_big_quiet_step ((go_at_call 42; exact Calls.lw (HSD1.out _))))
                  refine wpQuiet_nil ?_
                  rintro _ ⟨D, rfl⟩
                  have HBE := Nu.hid (HBD.out.trans (D.h.mono HBD.out.size))
                  have HGE := Nu.hid ((D.h.block _ (lt_of_block HGD.out)).trans HGD.out)
                  have HEL2 := Nu.hid (show Ro.elt es k [] l = Ro.elt es k (l.take (i + 1)) (l.drop (i + 1)) by
                    rw [HEL.out, Ro.drop_cons HH.out, Ro.elt_on HLVT.out (of_decide_eq_false HST.out), Ro.take_snoc' HH.out])
                  generalize D.val = W2 at *
                  clear k2 k3
                  go_wp2
                  go_roundw
                  case rel => exact ⟨i + 1, by omega, by go_num, HEL2.out, HGE.out, HBE.out⟩
                  case measure => simp [intOf]; omega
            · have hili : ¬ (i : Int) < (l.length : Int) := by omega
              obtain rfl : i = l.length := by omega
              have HEL0 := Nu.hid (show Ro.elt es k [] l = 0 by rw [HEL.out]; simp [Ro.elt])
              have HDG := Nu.hid (fun (D : LW wr) => r11degree_any ls.length ao ca es k D.val ((HE.out.later HB.out).later D.h) HVAL.out)
              obtain ⟨dg, hdg⟩ : ∃ dg, dg = Ro.deg es k := ⟨_, rfl⟩
              rw [← hdg] at HDG
              have HDGE := Nu.hid hdg
              clear hdg
              by_cases hd : l.length < dg
              · have t1 : decide ((l.length : Int) < (dg : Int)) = true := by simp; omega
                have t2 : (l.length : Int) < (dg : Int) := by omega
                go_wp2_with fail
                refine wp_region_lw (by kernel_rfl) (by kernel_rfl) ?_
                repeat (go_big_quiet_step ((go_at_call 43; exact Calls.lw (HDG.out _))))
                refine wpQuiet_nil ?_
                rintro _ ⟨D, rfl⟩
                have HBD := Nu.hid (HB.out.trans (D.h.mono HB.out.size))
                generalize D.val = W at *
                clear k0 k1 k2
                go_wp2
                go_ret2
                refine ⟨?_, HBD.out⟩
                rw [HCK.out, HCH.out, Ro.drop_cons HLK.out, Ro.chk_bad (Ro.vtx_missing HEL0.out (by have := HDGE.out; omega)) (by decide)]
                rfl
              · have t1 : decide ((l.length : Int) < (dg : Int)) = false := by simp; omega
                have t2 : ¬ (l.length : Int) < (dg : Int) := by omega
                have HCH2 := Nu.hid (show Ro.chk es 0 ls = Ro.chk es (k + 1) (ls.drop (k + 1)) by
                  rw [HCH.out, Ro.drop_cons HLK.out, Ro.chk_on (Ro.vtx_ok HEL0.out (by have := HDGE.out; omega))])
                go_wp2_with fail
                refine wp_region_lw (by kernel_rfl) (by kernel_rfl) ?_
                repeat (go_big_quiet_step ((go_at_call 43; exact Calls.lw (HDG.out _))))
                refine wpQuiet_nil ?_
                rintro _ ⟨D, rfl⟩
                have HBD := Nu.hid (HB.out.trans (D.h.mono HB.out.size))
                have HGD := Nu.hid ((D.h.block _ hsg).trans HG.out)
                generalize D.val = W at *
                clear k0 k1 k2
                go_wp2
                go_roundw
                case rel => exact ⟨k + 1, by omega, by go_num, HCH2.out, HGD.out, HBD.out⟩
                case measure => simp [intOf]; omega
        · have hlti : ¬ (k : Int) < (ls.length : Int) := by omega
          obtain rfl : k = ls.length := by omega
          go_wp2
          go_ret2
          refine ⟨?_, HB.out⟩
          rw [HCK.out, HCH.out]
          simp [Ro.chk]
    · have j1 : ((ls.length : Int) != (m : Int)) = true := by simp; omega
      have HCK : Hid (Ro.check (m : Int) es ls = (0, 110)) := by
        show _ = _
        unfold Ro.check
        rw [if_pos hv, if_pos (by omega)]
      clear hv hval hk
      go_enter Try.func28, Try.ntmps28
      go_wp2_with (go_at_call 6; refine HV0.out.mono ?_; rintro e w1 ⟨rfl, hb⟩; refine Hid.out ?_)
      refine Nu.hid ?_
      have HG0 : Hid (w1.heap[w.heap.size]? = some (.cells #[.int .i64 (m : Int), .slice ao es.length ca] 24 (0, 0))) := (hb.block _ (by simp)).trans (heap_alloc_new w _)
      obtain ⟨g0, g1, -⟩ := pair_cells HG0.out
      have HB1 := Nu.hid (HB0.out.trans (hb.mono HB0.out.size))
      clear hb
      go_wp2
      go_ret2
      exact ⟨by rw [HCK.out]; rfl, HB1.out⟩

end Go.Proofs.Ytjlfdkeklilafab

/-
  Around: the document.
-/
namespace Go.Proofs.Ytjlfdkeklilafab
open Go.RowKit Go.Sort

/-- 'append(v, z)' at a single operation, v a list of one's own. -/
theorem wp_push1 {o : Oper} {a : Act} {K : Act → World → Prop} {Q : Exit → Act → World → Prop} (s x : Operand)
    (ho : o.op = .call { callee := .builtin .append, args := #[s, x], argTypes := #[39, 39] }) (W : World) (B : Nat) (v : Value) (l : List Int) (z : Int) (hown : OwnZ W B v l)
    (hB : B ≤ W.heap.size) (hl : l.length ≤ 17592186044000) (hs : a.eval s = v) (hx : a.eval x = .slice (some ⟨W.heap.size, 0, none⟩) 1 1)
    (h : ∀ v' w', OwnZ w' B v' (l ++ [z]) → Below B W w' → K (a.put o.dst v') w') :
    o.wp Try.prog a (W.alloc (.cells #[.int .i64 z] 3)) K Q := by
  obtain ⟨i0, hi, hz0, hz1, hz2⟩ := info_parts Try.infoNum
  have hb0 : Below B W (W.alloc (.cells #[.int .i64 z] 3)) := (Below.refl _ _).alloc hB _
  refine wp_append_own _ s x 39 ho B 3 i0 (.int .i64 0) 1 8 Try.underlying39 hi hz0 hz1 hz2 rfl (by decide) v l.length (l.map (Value.int .i64)) hs (World.ownsRow.alloc hown _) ⟨W.heap.size, 0, none⟩ 1 1 [.int .i64 z] hx rfl (cell_one_new _ _ _) (by simp [Value.oneCell']) (by unfold maxLen; omega) (by omega) (by simp; omega) ?_
  intro v' w' hown' hg _
  refine h v' w' ?_ (hb0.grown hg (by simp; omega) (fun b hb => (World.ownsRow.lt hown b hb).1))
  unfold OwnZ
  rw [List.length_append, List.map_append]
  exact hown'

set_option maxRecDepth 100000 in
set_option maxHeartbeats 8000000 in
theorem r11around_any (n : Int) (ao : Option Addr) (ca : Nat) (es : List (Int × Int)) (xo : Option Addr) (xc : Nat) (ls : List (List Int)) (w : World) (he : EdgesAt w ao es) (hl : es.length ≤ 4611686018427387904) (hx : RwsAt w xo ls) :
    Calls Try.prog 12 #[graphVal n ao es.length ca, .slice xo ls.length xc] w (AroundP n es ls w) := by
  have hb0 : Below w.heap.size w (w.alloc (.cells #[.int .i64 n, .slice ao es.length ca] 24)) := (Below.refl _ _).alloc (Nat.le_refl _) _
  have HCK := Nu.hid (r11check_any n ao ca es xo xc ls _ (he.later hb0) hl (hx.later hb0))
  have HX := Nu.hid hx
  have HE := Nu.hid he
  have HB0 := Nu.hid hb0
  unfold graphVal at HCK ⊢
  clear he hx hb0
  by_cases hc : (Ro.check n es ls).2 = 0
  · have hrot := Ro.check_iff.1 hc
    have hval := Si.valid_iff.1 hrot.val
    have hlo := hval.lo
    have hhi := hval.hi
    have hfew := hval.few
    have hlen := hrot.len
    have HROT := Nu.hid hrot
    have HC := Nu.hid hc
    rw [hc] at HCK
    obtain ⟨cv, hcv⟩ : ∃ cv, cv = (Ro.check n es ls).1 := ⟨_, rfl⟩
    rw [← hcv] at HCK
    obtain ⟨N, hN⟩ : ∃ N, N = ls.length := ⟨_, rfl⟩
    rw [← hN] at HCK hlen ⊢
    obtain rfl : n = (N : Int) := hlen.symm
    have HN := Nu.hid hN
    have HVAL := Nu.hid hval
    clear hc hrot hval hcv hN hlen
    go_enter Try.func12, Try.ntmps12
    go_wp2_with (go_at_call 28; refine HCK.out.mono ?_; rintro e w1 ⟨rfl, hb⟩; refine Hid.out ?_)
    refine Nu.hid ?_
    have hG0 : w1.heap[w.heap.size]? = some (.cells #[.int .i64 (N : Int), .slice ao es.length ca] 24 (0, 0)) := (hb.block _ (by simp)).trans (heap_alloc_new w _)
    have hsz1 : w.heap.size < w1.heap.size := lt_of_block hG0
    have HB1 := Nu.hid (HB0.out.trans (hb.mono HB0.out.size))
    obtain ⟨g0, g1, -⟩ := pair_cells hG0
    have G0 := Nu.hid g0
    have G1 := Nu.hid g1
    clear hb hG0 g0 g1
    go_wp2
    go_loopw [8, 9] (fun c d wr => ∃ (k : Nat) (vs : List Value), k ≤ N ∧ d = .int .i64 (k : Int) ∧ RowsZ wr w1.heap.size c vs ((ls.take k).map (Ro.toL es)) ∧ Below w1.heap.size w1 wr) (fun _ d _ => N - (intOf d).toNat)
    case atStart => exact ⟨0, [], Nat.zero_le _, rfl, RowsZ.nil _ _, Below.refl _ _⟩
    case round =>
      obtain ⟨k, vs, hk, rfl, hr, hb⟩ := hrel
      obtain ⟨W0, rfl⟩ : ∃ W0, W0 = wr := ⟨_, rfl⟩
      have HR := Nu.hid hr
      have HB := Nu.hid hb
      have hws := hb.size
      obtain ⟨uo, uc, rfl⟩ := row_shape hr
      generalize hql : ((ls.take k).map (Ro.toL es)).length = ql at *
      have HQL := Nu.hid hql
      clear hr hb hql
      by_cases hlt : k < N
      · have hlti : (k : Int) < (N : Int) := by omega
        have hk0 : (0 : Int) ≤ (k : Int) := by omega
        obtain ⟨l, hlk⟩ : ∃ l, ls[k]? = some l := ⟨_, List.getElem?_eq_getElem (by have := HN.out; omega)⟩
        obtain ⟨b, o, A, C, rfl, hcell, hL, hln, -⟩ := ((HX.out.later HB1.out).later HB.out) k l hlk
        have HLW := Nu.hid hL
        obtain ⟨p1, hp1⟩ : ∃ p1, l.length = p1 := ⟨_, rfl⟩
        rw [hp1] at hcell hln HLW
        have HLK := Nu.hid hlk
        have HP1 := Nu.hid hp1
        have HCELL := Nu.hid hcell
        clear hL hlk hp1
        go_wp2
        clear hcell
        go_loopw [10, 11] (fun c5 c6 w5 => ∃ i : Nat, i ≤ p1 ∧ c6 = .int .i64 (i : Int) ∧ OwnZ w5 W0.heap.size c5 (Ro.toL es (l.take i)) ∧ Below W0.heap.size W0 w5) (fun _ c6 _ => p1 - (intOf c6).toNat)
        case atStart => exact ⟨0, Nat.zero_le _, rfl, OwnZ.nil _ _, Below.refl _ _⟩
        case round =>
          obtain ⟨i, hi, rfl, ho5, hb5⟩ := hrel
          have HB5 := Nu.hid hb5
          have HO5 := Nu.hid ho5
          have hs5 := hb5.size
          obtain ⟨ro, rc, erow, -, -⟩ := ho5.form
          subst erow
          generalize hrl : (Ro.toL es (l.take i)).length = rl at *
          have HRL := Nu.hid hrl
          have hcr := (hb5.cell (p := ⟨b, o + k, none⟩) (block_lt_of_cell HCELL.out)).trans HCELL.out
          clear hb5 ho5 hrl
          by_cases hil : i < p1
          · have hili : (i : Int) < (p1 : Int) := by omega
            have hi0 : (0 : Int) ≤ (i : Int) := by omega
            obtain ⟨x, hxi⟩ : ∃ x, l[i]? = some x := ⟨_, List.getElem?_eq_getElem (by have := HP1.out; omega)⟩
            obtain ⟨j, rfl, hj, -⟩ := HROT.out.half HLK.out hxi
            obtain ⟨lb, lo', rfl, lc⟩ := HLW.out.elem hxi
            have HS : Hid (∀ V, Below W0.heap.size W0 V → V.cell? ⟨w.heap.size, 0, none⟩ = some (.int .i64 (N : Int)) ∧ V.cell? ⟨w.heap.size, 1, none⟩ = some (.slice ao es.length ca) ∧ V.cell? ⟨b, o + k, none⟩ = some (.slice (some ⟨lb, lo', none⟩) p1 C) ∧ V.cell? ⟨lb, lo' + i, none⟩ = some (.int .i64 (j : Int)) ∧ Below W0.heap.size W0 V) := fun V hV =>
              ⟨(hV.cell (p := ⟨w.heap.size, 0, none⟩) (by show w.heap.size < _; omega)).trans ((HB.out.cell (p := ⟨w.heap.size, 0, none⟩) hsz1).trans G0.out), (hV.cell (p := ⟨w.heap.size, 1, none⟩) (by show w.heap.size < _; omega)).trans ((HB.out.cell (p := ⟨w.heap.size, 1, none⟩) hsz1).trans G1.out),
                (hV.cell (p := ⟨b, o + k, none⟩) (block_lt_of_cell HCELL.out)).trans HCELL.out, (hV.cell (p := ⟨lb, lo' + i, none⟩) (block_lt_of_cell lc)).trans lc, hV⟩
            have HT := Nu.hid (fun V (hV : Below W0.heap.size W0 V) => r11to_any N ao ca es j V (((HE.out.later HB1.out).later HB.out).later hV) HVAL.out hj)
            have HD : Hid (Below W0.heap.size W0 wr.drew) := HB5.out.drew
            have HXI := Nu.hid hxi
            have hrl2 : rl ≤ 17592186044000 := by have := HRL.out; rw [Ro.toL_len, List.length_take] at this; omega
            clear hxi lc
            go_wp2_with fail
            go_region_held3 (fun V => V.cell? ⟨w.heap.size, 0, none⟩ = some (.int .i64 (N : Int)) ∧ V.cell? ⟨w.heap.size, 1, none⟩ = some (.slice ao es.length ca) ∧ V.cell? ⟨b, o + k, none⟩ = some (.slice (some ⟨lb, lo', none⟩) p1 C) ∧ V.cell? ⟨lb, lo' + i, none⟩ = some (.int .i64 (j : Int)) ∧ Below W0.heap.size W0 V)
              (first | exact HS.out _ (by first | assumption | exact HD.out) | exact HS.out _ (Below.alloc (by first | assumption | exact HD.out) (Below.size (by first | assumption | exact HD.out)) _))
              ((first
                | (go_at_call 29; refine (HT.out _ (by first | assumption | exact HD.out)).mono ?_; rintro e V1 ⟨rfl, hb1⟩; have hbV : Below W0.heap.size W0 V1 := Below.trans HD.out (hb1.mono hs5); have hoV := HO5.out.later (((Below.refl wr.heap.size wr).drew).trans hb1))
                | (rw [if_pos (by rfl)]; refine wp_push1 _ _ (by rfl) V1 W0.heap.size (.slice ro rl rc) (Ro.toL es (l.take i)) (Cs.to es j : Int) hoV (hbV.size) (by rw [HRL.out]; exact hrl2) (by rfl) (by rfl) ?_; intro v' w' ho' hb'; have hbW : Below W0.heap.size W0 w' := hbV.trans hb')))
            have HO' := Nu.hid (show OwnZ w' W0.heap.size v' (Ro.toL es (l.take (i + 1))) by rw [Ro.toL_snoc HXI.out]; exact ho')
            have HBW := Nu.hid hbW
            clear ho' hb' hbW hbV hoV hb1
            go_wp2
            go_roundw
            case rel => exact ⟨i + 1, by omega, by go_num, HO'.out, HBW.out⟩
            case measure => simp [intOf]; omega
          · have hili : ¬ (i : Int) < (p1 : Int) := by omega
            obtain rfl : i = p1 := by omega
            have HOV : Hid (OwnZ wr W0.heap.size (.slice ro rl rc) (Ro.toL es l)) := by
              have := HO5.out
              rw [List.take_of_length_le (by rw [HP1.out]; exact Nat.le_refl _)] at this
              exact this
            go_wp2_with (at_builtin; refine wpList_pushRow rfl _ _ 25 Try.underlying25 rfl W0 wr w1.heap.size (.slice uo ql uc) vs ((ls.take k).map (Ro.toL es)) (.slice ro rl rc) (Ro.toL es l) HR.out HB5.out HOV.out hws (by rw [HQL.out]; have := HQL.out; rw [List.length_map, List.length_take] at this; omega) rfl rfl ?_; refine Hid.out ?_)
            refine Nu.hid ?_
            intro v2 w2 hr2 hb2
            have HR2 := Nu.hid (show RowsZ w2 w1.heap.size v2 (vs ++ [.slice ro rl rc]) ((ls.take (k + 1)).map (Ro.toL es)) by
              rw [Ro.map_snoc (f := Ro.toL es) HLK.out]
              first | exact hr2 | (rw [List.map_take]; exact hr2))
            have HB2 := Nu.hid (HB.out.trans hb2)
            clear hr2 hb2
            go_wp2
            go_roundw
            case rel => exact ⟨k + 1, _, by omega, by go_num, HR2.out, HB2.out⟩
            case measure => simp [intOf]; omega
      · have hlti : ¬ (k : Int) < (N : Int) := by omega
        obtain rfl : k = N := by omega
        go_wp2
        go_ret2
        have h1 := HR.out
        rw [HN.out, List.take_length] at h1
        exact ⟨HB1.out.trans (HB.out.mono (by omega)), .inr ⟨HC.out, _, vs, rfl, h1.lower (by omega)⟩⟩
  · obtain ⟨cv, hcv⟩ : ∃ cv, cv = (Ro.check n es ls).1 := ⟨_, rfl⟩
    obtain ⟨cc, hcc⟩ : ∃ cc, cc = (Ro.check n es ls).2 := ⟨_, rfl⟩
    rw [← hcv, ← hcc] at HCK
    rw [← hcc] at hc
    have HCC := Nu.hid hcc
    have j1 : (cc != 0) = true := by simp [hc]
    have HNC := Nu.hid hc
    clear hcv hcc hc
    go_enter Try.func12, Try.ntmps12
    go_wp2_with (go_at_call 28; refine HCK.out.mono ?_; rintro e w1 ⟨rfl, hb⟩; refine Hid.out ?_)
    refine Nu.hid ?_
    have HB1 := Nu.hid (HB0.out.trans (hb.mono HB0.out.size))
    clear hb
    go_wp2
    go_ret2
    refine ⟨HB1.out, .inl ⟨by rw [← HCC.out]; exact HNC.out, by rw [← HCC.out]; rfl⟩⟩

end Go.Proofs.Ytjlfdkeklilafab
