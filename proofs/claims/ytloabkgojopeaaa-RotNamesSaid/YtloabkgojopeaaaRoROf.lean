/-
  The document's own Of: rotations told by vertices.
-/
import Derived.Test.YtloabkgojopeaaaRoRHf
import Derived.Test.YtloabkgojopeaaaMg10
import Derived.Test.YtloabkgojopeaaaMg07
import Derived.Test.YtloabkgojopeaaaMg08
import Derived.Test.YtloabkgojopeaaaMg11
namespace Go.Proofs.Ytloabkgojopeaaa
open Go.RowKit Go.Sort

/-- What From answers: hs the half-edges that are told. -/
def FromQ (v : Nat) (c : Int) (hs : List (List Int)) (w : World) (e : Ending) (w' : World) : Prop :=
  Below w.heap.size w w' ∧ ((c ≠ 0 ∧ e = .returned (.tuple #[.slice none 0 0, .int .i64 (v : Int), .int .i64 c])) ∨ (c = 0 ∧ ∃ r rs, e = .returned (.tuple #[r, .int .i64 0, .int .i64 0]) ∧ RowsZ w' w.heap.size r rs hs))
def FromP (n : Int) (es : List (Int × Int)) (ls : List (List Int)) (w : World) (e : Ending) (w' : World) : Prop :=
  FromQ (Ro.check n es (Ro.hls es 0 ls)).1 (Ro.check n es (Ro.hls es 0 ls)).2 (Ro.hls es 0 ls) w e w'

theorem FromP.bad {n : Int} {es : List (Int × Int)} {ls : List (List Int)} {w w' : World} {v : Nat} {c : Int} (hb : Below w.heap.size w w') (h : Ro.check n es (Ro.hls es 0 ls) = (v, c)) (hc : c ≠ 0) : FromP n es ls w (.returned (.tuple #[.slice none 0 0, .int .i64 (v : Int), .int .i64 c])) w' := by
  refine ⟨hb, .inl ?_⟩
  rw [h]
  exact ⟨hc, rfl⟩

set_option maxRecDepth 100000 in
set_option maxHeartbeats 16000000 in
theorem r11of_any (n : Int) (ao : Option Addr) (ca : Nat) (es : List (Int × Int)) (xo : Option Addr) (xc : Nat) (ls : List (List Int)) (w : World) (he : EdgesAt w ao es) (hl : es.length ≤ 4611686018427387904) (hx : RwsAt w xo ls) :
    Calls Try.prog 22 #[graphVal n ao es.length ca, .slice xo ls.length xc] w (FromP n es ls w) := by
  have hb0 : Below w.heap.size w (w.alloc (.cells #[.int .i64 n, .slice ao es.length ca] 30)) := (Below.refl _ _).alloc (Nat.le_refl _) _
  have HV0 := Nu.hid (rvalid_any n ao ca es _ (he.later hb0) hl)
  have HE := Nu.hid he
  have HX := Nu.hid hx
  have HB0 := Nu.hid hb0
  have HHL := Nu.hid (Ro.hls_len es 0 ls)
  unfold graphVal at HV0 ⊢
  clear he hx hb0
  cases hv : Si.valid n es with
  | false =>
    rw [hv] at HV0
    have HCK : Hid (Ro.check n es (Ro.hls es 0 ls) = (0, 1)) := by show _ = _; simp [Ro.check, hv]
    clear hv
    go_enter Try.func22, Try.ntmps22
    go_wp2_with (go_at_call 27; refine HV0.out.mono ?_; rintro e w' ⟨rfl, hb⟩; refine Hid.out ?_)
    refine Nu.hid ?_
    have HB := Nu.hid (HB0.out.trans (hb.mono HB0.out.size))
    clear hb
    go_wp2
    go_ret3
    exact FromP.bad HB.out HCK.out (by decide)
  | true =>
    rw [hv] at HV0
    have hval := Si.valid_iff.1 hv
    have hhi := hval.hi
    have hlo := hval.lo
    have hfew := hval.few
    obtain ⟨m, rfl⟩ : ∃ m : Nat, n = (m : Int) := ⟨n.toNat, by omega⟩
    have HVAL := Nu.hid hval
    by_cases hk : ls.length = m
    · have HCK : Hid (Ro.check (m : Int) es (Ro.hls es 0 ls) = Ro.chk es 0 (Ro.hls es 0 ls)) := by
        show _ = _
        unfold Ro.check
        rw [if_pos hv, if_neg (by rw [HHL.out]; omega)]
      have HK := Nu.hid hk
      rw [hk]
      clear hv hval hk
      go_enter Try.func22, Try.ntmps22
      go_wp2_with (go_at_call 27; refine HV0.out.mono ?_; rintro e w1 ⟨rfl, hb⟩; refine Hid.out ?_)
      refine Nu.hid ?_
      have hG0 : w1.heap[w.heap.size]? = some (.cells #[.int .i64 (m : Int), .slice ao es.length ca] 30 (0, 0)) := (hb.block _ (by simp)).trans (heap_alloc_new w _)
      obtain ⟨g0, g1, -⟩ := pair_cells hG0
      have hsz1 : w.heap.size < w1.heap.size := lt_of_block hG0
      have HB1 := Nu.hid (HB0.out.trans (hb.mono HB0.out.size))
      have G0 := Nu.hid g0
      have G1 := Nu.hid g1
      clear hb hG0
      go_wp2
      clear g0 g1
      go_loopw [7, 8] (fun c d wr => ∃ (k : Nat) (vs : List Value), k ≤ m ∧ d = .int .i64 (k : Int) ∧ Ro.chk es 0 (Ro.hls es 0 ls) = Ro.chk es k ((Ro.hls es 0 ls).drop k) ∧ RowsZ wr w1.heap.size c vs ((Ro.hls es 0 ls).take k) ∧ Below w1.heap.size w1 wr) (fun _ d _ => m - (intOf d).toNat)
      case atStart => exact ⟨0, [], Nat.zero_le _, rfl, rfl, RowsZ.nil _ _, Below.refl _ _⟩
      case round =>
        obtain ⟨k, vs, hk, rfl, hch, hr, hb⟩ := hrel
        obtain ⟨W0, rfl⟩ : ∃ W0, W0 = wr := ⟨_, rfl⟩
        have HCH := Nu.hid hch
        have HR := Nu.hid hr
        have HB := Nu.hid hb
        have hws := hb.size
        obtain ⟨uo, uc, rfl⟩ := row_shape hr
        generalize hql : ((Ro.hls es 0 ls).take k).length = ql at *
        have HQL := Nu.hid hql
        have g0 := (hb.cell (p := ⟨w.heap.size, 0, none⟩) hsz1).trans G0.out
        have g1 := (hb.cell (p := ⟨w.heap.size, 1, none⟩) hsz1).trans G1.out
        clear hch hr hb hql
        by_cases hlt : k < m
        · have hlti : (k : Int) < (m : Int) := by omega
          have hk0 : (0 : Int) ≤ (k : Int) := by omega
          obtain ⟨l, hlk⟩ : ∃ l, ls[k]? = some l := ⟨_, List.getElem?_eq_getElem (by have := HK.out; omega)⟩
          obtain ⟨b, o, A, C, rfl, hcell, hL, hln, -⟩ := ((HX.out.later HB1.out).later HB.out) k l hlk
          have hbl : b < W0.heap.size := block_lt_of_cell hcell
          have HL := Nu.hid hL
          have hLk := Ro.hls_at (es := es) (k := 0) hlk
          rw [Nat.zero_add] at hLk
          have HLK := Nu.hid hLk
          obtain ⟨p1, hp1⟩ : ∃ p1, l.length = p1 := ⟨_, rfl⟩
          rw [hp1] at hcell hln HL
          have HP1 := Nu.hid hp1
          have HCELL := Nu.hid hcell
          clear hL hlk hLk hp1
          go_wp2
          clear g0 g1 hcell
          go_loopw [9, 10] (fun c5 c6 w5 => ∃ i : Nat, i ≤ p1 ∧ c6 = .int .i64 (i : Int) ∧ Ro.elt es k [] (l.map (Ro.hl es k)) = Ro.elt es k ((l.map (Ro.hl es k)).take i) ((l.map (Ro.hl es k)).drop i) ∧ OwnZ w5 W0.heap.size c5 ((l.map (Ro.hl es k)).take i) ∧ Below W0.heap.size W0 w5) (fun _ c6 _ => p1 - (intOf c6).toNat)
          case atStart => exact ⟨0, Nat.zero_le _, rfl, rfl, OwnZ.nil _ _, Below.refl _ _⟩
          case round =>
            obtain ⟨i, hi, rfl, hel, ho5, hb5⟩ := hrel
            have HEL := Nu.hid hel
            have HB5 := Nu.hid hb5
            have HO5 := Nu.hid ho5
            have hs5 := hb5.size
            obtain ⟨ro, rc, erow, -, -⟩ := ho5.form
            subst erow
            generalize hrl : ((l.map (Ro.hl es k)).take i).length = rl at *
            have HRL2 : Hid (rl = i) := by show _ = _; rw [← hrl, List.length_take, List.length_map, HP1.out]; omega
            have HRL := Nu.hid hrl
            have hcr := (hb5.cell (p := ⟨b, o + k, none⟩) hbl).trans HCELL.out
            have hbr : b < wr.heap.size := block_lt_of_cell hcr
            have g0 := (hb5.cell (p := ⟨w.heap.size, 0, none⟩) (by show w.heap.size < _; omega)).trans ((HB.out.cell (p := ⟨w.heap.size, 0, none⟩) hsz1).trans G0.out)
            have g1 := (hb5.cell (p := ⟨w.heap.size, 1, none⟩) (by show w.heap.size < _; omega)).trans ((HB.out.cell (p := ⟨w.heap.size, 1, none⟩) hsz1).trans G1.out)
            have hgr : w.heap.size < wr.heap.size := block_lt_of_cell g0
            have HEW := Nu.hid (((HE.out.later HB1.out).later HB.out).later hb5)
            have HLW := Nu.hid (HL.out.later hb5)
            clear hel hb5 ho5 hrl
            have hne := LW.any wr
            have k0 : ∀ D : LW wr, D.val.cell? ⟨w.heap.size, 0, none⟩ = some (.int .i64 (m : Int)) := fun D => (D.h.cell (p := ⟨w.heap.size, 0, none⟩) hgr).trans g0
            have k1 : ∀ D : LW wr, D.val.cell? ⟨w.heap.size, 1, none⟩ = some (.slice ao es.length ca) := fun D => (D.h.cell (p := ⟨w.heap.size, 1, none⟩) hgr).trans g1
            have k2 : ∀ D : LW wr, D.val.cell? ⟨b, o + k, none⟩ = some (.slice A p1 C) := fun D => (D.h.cell (p := ⟨b, o + k, none⟩) hbr).trans hcr
            by_cases hil : i < p1
            · have hili : (i : Int) < (p1 : Int) := by omega
              have hi0 : (0 : Int) ≤ (i : Int) := by omega
              obtain ⟨x, hxi⟩ : ∃ x, l[i]? = some x := ⟨_, List.getElem?_eq_getElem (by have := HP1.out; omega)⟩
              obtain ⟨lb, lo', rfl, lc⟩ := HLW.out.elem hxi
              have hlbr : lb < wr.heap.size := block_lt_of_cell lc
              have k3 : ∀ D : LW wr, D.val.cell? ⟨lb, lo' + i, none⟩ = some (.int .i64 x) := fun D => (D.h.cell (p := ⟨lb, lo' + i, none⟩) hlbr).trans lc
              have HHF := Nu.hid (fun (D : LW wr) => rhalf_any m ao ca es k x D.val (HEW.out.later D.h) HVAL.out)
              have hLi : (l.map (Ro.hl es k))[i]? = some (Ro.hl es k x) := by rw [List.getElem?_map, hxi]; rfl
              have HLI := Nu.hid hLi
              have HXI := Nu.hid hxi
              clear lc hLi hxi
              cases hh : Ro.half es k x (2 * es.length) with
              | none =>
                obtain ⟨e1, e2⟩ := Ro.hl_no hh
                rw [e1] at HHF HLI
                have HLV := Nu.hid e2
                clear hh e1 e2
                go_wp2_with fail
                refine wp_region_lw (by kernel_rfl) (by kernel_rfl) ?_
                repeat (go_big_quiet_step ((go_at_call 42; exact Calls.lw (HHF.out _))))
                refine wpQuiet_nil ?_
                rintro _ ⟨D, rfl⟩
                have HBD := Nu.hid (HB1.out.trans ((HB.out.trans ((HB5.out.trans (D.h.mono hs5)).mono hws)).mono (Nat.le_of_lt hsz1)))
                generalize D.val = W at *
                clear k0 k1 k2 k3
                go_wp2
                go_ret3
                refine FromP.bad HBD.out ?_ (by decide)
                rw [HCK.out, HCH.out, Ro.drop_cons HLK.out, Ro.chk_bad (Ro.vtx_elt (by rw [HEL.out, Ro.drop_cons HLI.out, Ro.elt_half HLV.out]) (by decide)) (by decide)]
              | some h =>
                obtain ⟨e1, e2, e3⟩ := Ro.hl_lv hh
                rw [e1] at HHF HLI
                have HLV := Nu.hid e2
                have HM := Nu.hid (fun pre => Ro.hl_mem (pre := pre) hh)
                have hh0 : ¬ (h : Int) < 0 := by omega
                clear hh e1 e2
                go_wp2_with fail
                refine wp_region_lw (by kernel_rfl) (by kernel_rfl) ?_
                repeat (go_big_quiet_step ((go_at_call 42; exact Calls.lw (HHF.out _))))
                refine wpQuiet_nil ?_
                rintro _ ⟨D, rfl⟩
                have HBD := Nu.hid (HB5.out.trans (D.h.mono hs5))
                have HOD := Nu.hid (HO5.out.later D.h)
                have d0 := k0 D
                have d1 := k1 D
                have d2 := k2 D
                have d3 := k3 D
                have HLD := Nu.hid (HLW.out.later D.h)
                generalize D.val = W at *
                clear k0 k1 k2 k3 hne hcr g0 g1 HHF
                have hbW : b < W.heap.size := block_lt_of_cell d2
                have hlbW : lb < W.heap.size := block_lt_of_cell d3
                have hne := LW.any W
                have k2 : ∀ D : LW W, D.val.cell? ⟨b, o + k, none⟩ = some (.slice (some ⟨lb, lo', none⟩) p1 C) := fun D => (D.h.cell (p := ⟨b, o + k, none⟩) hbW).trans d2
                have k3 : ∀ D : LW W, D.val.cell? ⟨lb, lo' + i, none⟩ = some (.int .i64 x) := fun D => (D.h.cell (p := ⟨lb, lo' + i, none⟩) hlbW).trans d3
                have HSD := Nu.hid (fun (D : LW W) => stands_any (some ⟨lb, lo', none⟩) C p1 i l x D.val HP1.out (HLD.out.ints.later D.h) hi (by omega))
                have HMT : Hid ((h : Int) ∈ (l.map (Ro.hl es k)).take i ↔ x ∈ l.take i) := by
                  show _ ↔ _
                  rw [← List.map_take]
                  exact HM.out _
                cases hst : decide (x ∈ l.take i) with
                | true =>
                  have HSD1 : Hid (∀ D : LW W, Calls Try.prog 39 #[.slice (some ⟨lb, lo', none⟩) p1 C, .int .i64 (i : Int), .int .i64 x] D.val fun e w' => e = .returned (.bool true) ∧ Below D.val.heap.size D.val w') := fun D => (HSD.out D).mono fun e w' hh => ⟨by rw [hh.1, hst], by rw [hh.2]; exact Below.refl _ _⟩
                  have HST := Nu.hid hst
                  clear hst HSD
                  go_wp2_with fail
                  refine wp_region_lw (by kernel_rfl) (by kernel_rfl) ?_
                  repeat (go_big_quiet_step ((go_at_call 39; exact Calls.lw (HSD1.out _))))
                  refine wpQuiet_nil ?_
                  rintro _ ⟨D, rfl⟩
                  have HBE := Nu.hid (HB1.out.trans ((HB.out.trans ((HBD.out.trans (D.h.mono HBD.out.size)).mono hws)).mono (Nat.le_of_lt hsz1)))
                  generalize D.val = W2 at *
                  clear k2 k3
                  go_wp2
                  go_ret3
                  refine FromP.bad HBE.out ?_ (by decide)
                  rw [HCK.out, HCH.out, Ro.drop_cons HLK.out, Ro.chk_bad (Ro.vtx_elt (by rw [HEL.out, Ro.drop_cons HLI.out, Ro.elt_twice HLV.out (HMT.out.2 (of_decide_eq_true HST.out))]) (by decide)) (by decide)]
                | false =>
                  have HSD1 : Hid (∀ D : LW W, Calls Try.prog 39 #[.slice (some ⟨lb, lo', none⟩) p1 C, .int .i64 (i : Int), .int .i64 x] D.val fun e w' => e = .returned (.bool false) ∧ Below D.val.heap.size D.val w') := fun D => (HSD.out D).mono fun e w' hh => ⟨by rw [hh.1, hst], by rw [hh.2]; exact Below.refl _ _⟩
                  have HST := Nu.hid hst
                  clear hst HSD
                  go_wp2_with fail
                  refine wp_region_lw (by kernel_rfl) (by kernel_rfl) ?_
                  repeat (go_big_quiet_step ((go_at_call 39; exact Calls.lw (HSD1.out _))))
                  refine wpQuiet_nil ?_
                  rintro _ ⟨D, rfl⟩
                  have HBE := Nu.hid (HBD.out.trans (D.h.mono HBD.out.size))
                  have HOE := Nu.hid (HOD.out.later D.h)
                  have HEL2 := Nu.hid (show Ro.elt es k [] (l.map (Ro.hl es k)) = Ro.elt es k ((l.map (Ro.hl es k)).take (i + 1)) ((l.map (Ro.hl es k)).drop (i + 1)) by
                    rw [HEL.out, Ro.drop_cons HLI.out, Ro.elt_on HLV.out (fun hm => of_decide_eq_false HST.out (HMT.out.1 hm)), Ro.take_snoc' HLI.out])
                  have hsE := HBE.out.size
                  have HTS := Nu.hid (Ro.take_snoc' HLI.out)
                  generalize D.val = W2 at *
                  clear k2 k3
                  go_wp2_with (at_builtin; refine wpList_push rfl _ _ rfl W2 W0.heap.size _ ((l.map (Ro.hl es k)).take i) (h : Int) HOE.out hsE (by rw [HRL.out, HRL2.out]; omega) rfl rfl ?_; refine Hid.out ?_)
                  refine Nu.hid ?_
                  intro v' w' ho' _ _ hb'
                  have HO' := Nu.hid (show OwnZ w' W0.heap.size v' ((l.map (Ro.hl es k)).take (i + 1)) by rw [HTS.out]; exact ho')
                  have HB' := Nu.hid (HBE.out.trans hb')
                  clear ho' hb'
                  go_wp2
                  go_roundw
                  case rel => exact ⟨i + 1, by omega, by go_num, HEL2.out, HO'.out, HB'.out⟩
                  case measure => simp [intOf]; omega
            · have hili : ¬ (i : Int) < (p1 : Int) := by omega
              obtain rfl : i = p1 := by omega
              have hLl : (l.map (Ro.hl es k)).length = i := by rw [List.length_map]; exact HP1.out
              have HEL0 := Nu.hid (show Ro.elt es k [] (l.map (Ro.hl es k)) = 0 by rw [HEL.out, List.drop_of_length_le (by omega)]; rfl)
              have HOV : Hid (OwnZ wr W0.heap.size (.slice ro rl rc) (l.map (Ro.hl es k))) := by
                have := HO5.out
                rw [List.take_of_length_le (by omega)] at this
                exact this
              have HLL := Nu.hid hLl
              have HDG := Nu.hid (r11degree_any m ao ca es k wr HEW.out HVAL.out)
              obtain ⟨dg, hdg⟩ : ∃ dg, dg = Ro.deg es k := ⟨_, rfl⟩
              rw [← hdg] at HDG
              have HDGE := Nu.hid hdg
              clear hdg hLl k0 k1 k2 hne
              by_cases hd : rl < dg
              · have t2 : (rl : Int) < (dg : Int) := by omega
                go_wp2_with (go_at_call 40; refine HDG.out.mono ?_; rintro e W ⟨rfl, hbW⟩; refine Hid.out ?_)
                refine Nu.hid ?_
                have HBD := Nu.hid (HB1.out.trans ((HB.out.trans ((HB5.out.trans (hbW.mono hs5)).mono hws)).mono (Nat.le_of_lt hsz1)))
                clear hbW g0 g1
                go_wp2
                go_ret3
                refine FromP.bad HBD.out ?_ (by decide)
                rw [HCK.out, HCH.out, Ro.drop_cons HLK.out, Ro.chk_bad (Ro.vtx_missing HEL0.out (by rw [HLL.out, ← HRL2.out, ← HDGE.out]; exact hd)) (by decide)]
              · have t2 : ¬ (rl : Int) < (dg : Int) := by omega
                have HCH2 := Nu.hid (show Ro.chk es 0 (Ro.hls es 0 ls) = Ro.chk es (k + 1) ((Ro.hls es 0 ls).drop (k + 1)) by
                  rw [HCH.out, Ro.drop_cons HLK.out, Ro.chk_on (Ro.vtx_ok HEL0.out (by rw [HLL.out, ← HRL2.out, ← HDGE.out]; exact hd))])
                have HTS := Nu.hid (Ro.take_snoc' HLK.out)
                go_wp2_with (go_at_call 40; refine HDG.out.mono ?_; rintro e W ⟨rfl, hbW⟩; refine Hid.out ?_)
                refine Nu.hid ?_
                have HBD := Nu.hid (HB5.out.trans (hbW.mono hs5))
                have HOD := Nu.hid (HOV.out.later hbW)
                clear hbW g0 g1
                go_wp2_with (at_builtin; refine wpList_pushRow rfl _ _ 24 Try.underlying24 rfl W0 W w1.heap.size (.slice uo ql uc) vs ((Ro.hls es 0 ls).take k) (.slice ro rl rc) (l.map (Ro.hl es k)) HR.out HBD.out HOD.out hws (by rw [HQL.out]; have := HQL.out; rw [List.length_take] at this; omega) rfl rfl ?_; refine Hid.out ?_)
                refine Nu.hid ?_
                intro v2 w2 hr2 hb2
                have HR2 := Nu.hid (show RowsZ w2 w1.heap.size v2 (vs ++ [.slice ro rl rc]) ((Ro.hls es 0 ls).take (k + 1)) by rw [HTS.out]; exact hr2)
                have HB2 := Nu.hid (HB.out.trans hb2)
                clear hr2 hb2
                go_wp2
                go_roundw
                case rel => exact ⟨k + 1, _, by omega, by go_num, HCH2.out, HR2.out, HB2.out⟩
                case measure => simp [intOf]; omega
        · have hlti : ¬ (k : Int) < (m : Int) := by omega
          obtain rfl : k = m := by omega
          have hall : (Ro.hls es 0 ls).length = k := by rw [HHL.out]; exact HK.out
          have HC0 : Hid ((Ro.check (k : Int) es (Ro.hls es 0 ls)).2 = 0) := by
            show _ = _
            rw [HCK.out, HCH.out, List.drop_of_length_le (by omega)]
            rfl
          have HR1 := HR.out
          rw [List.take_of_length_le (by omega)] at HR1
          have HR1 := Nu.hid (HR1.lower (B' := w.heap.size) (by omega))
          clear hall
          go_wp2
          go_ret3
          refine ⟨HB1.out.trans (HB.out.mono (by omega)), .inr ⟨HC0.out, _, vs, rfl, HR1.out⟩⟩
    · have j1 : ((ls.length : Int) != (m : Int)) = true := by simp; omega
      have HCK : Hid (Ro.check (m : Int) es (Ro.hls es 0 ls) = (0, 110)) := by
        show _ = _
        unfold Ro.check
        rw [if_pos hv, if_pos (by rw [HHL.out]; omega)]
      clear hv hval hk
      go_enter Try.func22, Try.ntmps22
      go_wp2_with (go_at_call 27; refine HV0.out.mono ?_; rintro e w1 ⟨rfl, hb⟩; refine Hid.out ?_)
      refine Nu.hid ?_
      have hG0 : w1.heap[w.heap.size]? = some (.cells #[.int .i64 (m : Int), .slice ao es.length ca] 30 (0, 0)) := (hb.block _ (by simp)).trans (heap_alloc_new w _)
      obtain ⟨g0, g1, -⟩ := pair_cells hG0
      have HB1 := Nu.hid (HB0.out.trans (hb.mono HB0.out.size))
      clear hb hG0
      go_wp2
      go_ret3
      exact FromP.bad HB1.out HCK.out (by decide)

end Go.Proofs.Ytloabkgojopeaaa
