/-
  Proved: for every graph and every two lists of lists the law RotCanon answers true, and all read afterwards as before. No condition.
-/
import Derived.Test.YtloabkgojopeaaaMg10
import Derived.Test.YtloabkgojopeaaaRoQ
import Derived.Test.YtloabkgojopeaaaRoSm
namespace Go.Proofs.Ytloabkgojopeaaa
open Go.ChangeShapes Go.WideShapes Go.ChangeAt Go.RowKit
namespace lawRK

/-- What came in, and lists of one's own. -/
structure CS (W w : World) (n : Int) (ao : Option Addr) (ca : Nat) (es : List (Int × Int)) (xo : Option Addr) (ls : List (List Int)) (yo : Option Addr) (ms : List (List Int)) (po : Option Addr) (K : List (List Int)) : Prop where
  gr : GR W w n ao ca es xo ls
  ry : RwsAt W yo ms
  rc : RwsAt W po K
theorem CS.later {W W' w : World} {n : Int} {ao : Option Addr} {ca : Nat} {es : List (Int × Int)} {xo : Option Addr} {ls : List (List Int)} {yo : Option Addr} {ms : List (List Int)} {po : Option Addr} {K : List (List Int)} (h : CS W w n ao ca es xo ls yo ms po K) (hb : Below W.heap.size W W') : CS W' w n ao ca es xo ls yo ms po K :=
  ⟨h.gr.later hb, h.ry.later hb, h.rc.later hb⟩

def BoolQ (T : Bool) (W : World) (e : Ending) (w' : World) : Prop := e = .returned (.bool T) ∧ Below W.heap.size W w'
theorem same_bool {ls ms : List (List Int)} {T : Bool} (h : T = true ↔ Ro.Tns ls ms) {W : World} {e : Ending} {w' : World} (he : TnsPost ls ms W e w') : BoolQ T W e w' := by
  obtain ⟨hb, ⟨h1, rfl⟩ | ⟨h1, rfl⟩⟩ := he
  · rw [h.2 h1]
    exact ⟨rfl, hb⟩
  · cases T with
    | true => exact absurd (h.1 rfl) h1
    | false => exact ⟨rfl, hb⟩
def RowsQ (N : Nat) (K : List (List Int)) (W : World) (e : Ending) (w' : World) : Prop := ∃ po pc, e = .returned (.slice po N pc) ∧ RwsAt w' po K ∧ Below W.heap.size W w'
theorem rows_q {N : Nat} {K : List (List Int)} {W : World} {e : Ending} {w' : World} (hm : ∀ l ∈ K, l.length ≤ 17592186043904) (hN : K.length = N) (h : RowsPost K W e w') : RowsQ N K W e w' := by
  obtain ⟨v, vs, rfl, hr, hb⟩ := h
  obtain ⟨po, pc, rfl, hp, -⟩ := hr.rws hm
  exact ⟨po, pc, by rw [hN], hp, hb⟩

set_option maxRecDepth 100000 in
set_option maxHeartbeats 32000000 in
theorem walk (n : Int) (ao : Option Addr) (ca : Nat) (es : List (Int × Int)) (xo : Option Addr) (xc : Nat) (ls : List (List Int)) (yo : Option Addr) (yc : Nat) (ms : List (List Int)) (w : World) (_ : -9223372036854775808 ≤ n ∧ n ≤ 9223372036854775807) (hq : PairsIn w ao es.length ca es) (hle : es.length * 16 ≤ 140737488351232) (hx : RowsIn w xo ls.length xc ls) (hy : RowsIn w yo ms.length yc ms) :
    Calls Try.prog 7 #[.agg #[.int .i64 n, .slice ao es.length ca], .slice xo ls.length xc, .slice yo ms.length yc] w fun e w' => e = .returned (.bool true) ∧ Below w.heap.size w w' := by
  have hll := hx.hsm
  have hml := hy.hsm
  have hG0 : GR _ w n ao ca es xo ls := .start hq.hat hx.hat
  have hY0 : RwsAt _ yo ms := hy.hat.later ((Below.refl _ _).alloc (Nat.le_refl _) (.cells #[.int .i64 n, .slice ao es.length ca] 30))
  have HG0 := Nu.hid hG0
  have HY0 := Nu.hid hY0
  obtain ⟨cv, hcv⟩ : ∃ cv, cv = (Ro.check n es ls).1 := ⟨_, rfl⟩
  obtain ⟨cc, hcc⟩ : ∃ cc, cc = (Ro.check n es ls).2 := ⟨_, rfl⟩
  obtain ⟨sv, hsv⟩ : ∃ sv, sv = (Ro.check n es ms).1 := ⟨_, rfl⟩
  obtain ⟨sc, hsc⟩ : ∃ sc, sc = (Ro.check n es ms).2 := ⟨_, rfl⟩
  have HCK : Hid (∀ W, GR W w n ao ca es xo ls → Calls Try.prog 16 #[.agg #[.int .i64 n, .slice ao es.length ca], .slice xo ls.length xc] W (CkQ cv cc W)) := by
    rw [hcc, hcv]
    exact fun W h => rcheck_any n ao ca es xo xc ls W h.edges (by omega) h.rows
  have HCS : Hid (∀ W, GR W w n ao ca es xo ls → RwsAt W yo ms → Calls Try.prog 16 #[.agg #[.int .i64 n, .slice ao es.length ca], .slice yo ms.length yc] W (CkQ sv sc W)) := by
    rw [hsc, hsv]
    exact fun W h h2 => rcheck_any n ao ca es yo yc ms W h.edges (by omega) h2
  have HNX : Hid (∀ W, GR W w n ao ca es xo ls → Calls Try.prog 18 #[.agg #[.int .i64 n, .slice ao es.length ca], .slice xo ls.length xc] W (NextQ cc (Ro.nextL es ls) (2 * es.length) W)) := by
    rw [hcc]
    exact fun W h => rnext_any n ao ca es xo xc ls W h.edges (by omega) h.rows
  have HROT : Hid (cc = 0 → Ro.Rot n es ls) := fun h => Ro.check_iff.1 (by rw [← hcc]; exact h)
  have hrow : ∀ l ∈ ls, l.length ≤ 17592186043904 := fun l hl => by
    obtain ⟨v, hv⟩ := List.mem_iff_getElem?.1 hl
    obtain ⟨_, _, _, _, _, _, _, hln, _⟩ := hx.hat v l hv
    exact hln
  have hrow2 : ∀ l ∈ ms, l.length ≤ 17592186043904 := fun l hl => by
    obtain ⟨v, hv⟩ := List.mem_iff_getElem?.1 hl
    obtain ⟨_, _, _, _, _, _, _, hln, _⟩ := hy.hat v l hv
    exact hln
  have hKm : ∀ l ∈ ls.map Ro.canon1, l.length ≤ 17592186043904 := fun m hm => by
    obtain ⟨l, hl, rfl⟩ := List.mem_map.1 hm
    rw [Ro.canon1_len]
    exact hrow l hl
  have hSm : ∀ l ∈ ms.map Ro.canon1, l.length ≤ 17592186043904 := fun m hm => by
    obtain ⟨l, hl, rfl⟩ := List.mem_map.1 hm
    rw [Ro.canon1_len]
    exact hrow2 l hl
  have hMm : ∀ l ∈ ls.map (fun l => Ro.canon1 l.reverse), l.length ≤ 17592186043904 := fun m hm => by
    obtain ⟨l, hl, rfl⟩ := List.mem_map.1 hm
    rw [Ro.canon1_len, List.length_reverse]
    exact hrow l hl
  obtain ⟨T, hT⟩ : ∃ T : Bool, T = true ↔ Ro.Tns ls ms := by
    by_cases h : Ro.Tns ls ms
    · exact ⟨true, by simp [h]⟩
    · exact ⟨false, by simp [h]⟩
  obtain ⟨K, hK⟩ : ∃ K, K = ls.map Ro.canon1 := ⟨_, rfl⟩
  obtain ⟨S, hS⟩ : ∃ S, S = ms.map Ro.canon1 := ⟨_, rfl⟩
  obtain ⟨R, hR⟩ : ∃ R, R = ls.map (fun l => Ro.canon1 l.reverse) := ⟨_, rfl⟩
  have hKl : K.length = ls.length := by rw [hK]; simp
  have hSl : S.length = ms.length := by rw [hS]; simp
  have hRl : R.length = ls.length := by rw [hR]; simp
  rw [← hK] at hKm
  rw [← hS] at hSm
  rw [← hR] at hMm
  obtain ⟨kv, hkv⟩ : ∃ kv, kv = (Ro.check n es K).1 := ⟨_, rfl⟩
  obtain ⟨kc, hkc⟩ : ∃ kc, kc = (Ro.check n es K).2 := ⟨_, rfl⟩
  obtain ⟨rc, hrc⟩ : ∃ rc, rc = (Ro.check n es R).2 := ⟨_, rfl⟩
  have HKC : Hid (∀ W po pc, GR W w n ao ca es xo ls → RwsAt W po K → Calls Try.prog 16 #[.agg #[.int .i64 n, .slice ao es.length ca], .slice po ls.length pc] W (CkQ kv kc W)) := by
    rw [hkc, hkv, ← hKl]
    exact fun W po pc h h2 => rcheck_any n ao ca es po pc K W h.edges (by omega) h2
  have HNR : Hid (∀ W po pc, GR W w n ao ca es xo ls → RwsAt W po R → Calls Try.prog 18 #[.agg #[.int .i64 n, .slice ao es.length ca], .slice po ls.length pc] W (NextQ rc (Ro.nextL es R) (2 * es.length) W)) := by
    rw [hrc, ← hRl]
    exact fun W po pc h h2 => rnext_any n ao ca es po pc R W h.edges (by omega) h2
  have HCA : Hid (∀ W, RwsAt W xo ls → Calls Try.prog 23 #[.slice xo ls.length xc] W (RowsQ ls.length K W)) := fun W h =>
    (canon_any xo xc ls W h (by omega)).mono fun e w' h => by rw [← hK] at h; exact rows_q hKm hKl h
  have HCB : Hid (∀ W, RwsAt W yo ms → Calls Try.prog 23 #[.slice yo ms.length yc] W (RowsQ ms.length S W)) := fun W h =>
    (canon_any yo yc ms W h (by omega)).mono fun e w' h => by rw [← hS] at h; exact rows_q hSm hSl h
  have HMI : Hid (∀ W, RwsAt W xo ls → Calls Try.prog 13 #[.slice xo ls.length xc] W (RowsQ ls.length R W)) := fun W h =>
    (mirror_any xo xc ls W h (by omega)).mono fun e w' h => by rw [← hR] at h; exact rows_q hMm hRl h
  have HSK : Hid (∀ W po pc, RwsAt W po K → RwsAt W xo ls → Calls Try.prog 14 #[.slice po ls.length pc, .slice xo ls.length xc] W (BoolQ true W)) := fun W po pc h h2 => by
    have := (same11_any po xo pc xc K ls W h h2 (by omega)).mono fun e w' h => same_bool (T := true) (by rw [hK]; simp [Ro.tns_canon]) h
    rw [hKl] at this
    exact this
  have HSS : Hid (∀ W, RwsAt W xo ls → RwsAt W yo ms → Calls Try.prog 14 #[.slice xo ls.length xc, .slice yo ms.length yc] W (BoolQ T W)) := fun W h h2 =>
    (same11_any xo yo xc yc ls ms W h h2 (by omega)).mono fun e w' h => same_bool hT h
  have HEK : Hid (∀ W po pc qo qc, RwsAt W po K → RwsAt W qo K → Calls Try.prog 12 #[.slice po ls.length pc, .slice qo ls.length qc] W (BoolQ true W)) := fun W po pc qo qc h h2 => by
    have := equal11_any po qo pc qc K K W h h2 (by omega)
    rw [decide_eq_true rfl, hKl] at this
    exact this
  go_enter Try.func7, Try.ntmps7
  have HQ : Hid (cc = 0 → (∀ W po pc, RwsAt W po K → Calls Try.prog 23 #[.slice po ls.length pc] W (RowsQ ls.length K W)) ∧ (∀ W po pc, RwsAt W po R → Calls Try.prog 13 #[.slice po ls.length pc] W (RowsQ ls.length K W)) ∧ (∀ W po pc qo qc, RwsAt W po K → RwsAt W qo S → Calls Try.prog 12 #[.slice po ls.length pc, .slice qo ms.length qc] W (BoolQ T W)) ∧ kc = 0 ∧ rc = 0 ∧ ∀ l ∈ K, ∀ x y, l[0]? = some x → y ∈ l → x ≤ y) := fun h0 => by
    have hrot : Ro.Rot n es ls := Ro.check_iff.1 (by rw [← hcc]; exact h0)
    refine ⟨fun W po pc h => ?_, fun W po pc h => ?_, fun W po pc qo qc h h2 => ?_, ?_, ?_, ?_⟩
    · have := (canon_any po pc K W h (by omega)).mono fun e w' h => by
        have e2 : K.map Ro.canon1 = K := by rw [hK]; exact Ro.map_canon_twice hrot.nodup
        rw [e2] at h
        exact rows_q hKm hKl h
      rw [hKl] at this
      exact this
    · have := (mirror_any po pc R W h (by omega)).mono fun e w' h => by
        have e2 : R.map (fun l => Ro.canon1 l.reverse) = K := by rw [hK, hR]; exact Ro.map_mirror_twice hrot.nodup
        rw [e2] at h
        exact rows_q hKm hKl h
      rw [hRl] at this
      exact this
    · have := equal11_any po qo pc qc K S W h h2 (by omega)
      have e2 : decide (K = S) = T := by
        have := Ro.tns_iff (ms := ms) hrot.nodup
        rw [← hK, ← hS] at this
        cases T with
        | true => exact decide_eq_true (this.1 (hT.1 rfl))
        | false => exact decide_eq_false fun h => by have := hT.2 (this.2 h); cases this
      rw [e2, hKl, hSl] at this
      exact this
    · rw [hkc, hK]
      exact Ro.check_iff.2 hrot.canon
    · rw [hrc, hR]
      exact Ro.check_iff.2 hrot.mirror
    · intro l hl x y hx hy
      rw [hK] at hl
      obtain ⟨l', _, rfl⟩ := List.mem_map.1 hl
      exact Ro.canon1_least hx ((Ro.canon1_perm l').mem_iff.1 hy)
  have HR := Nu.hid hR
  have HKL := Nu.hid hKl
  clear hq hx hy hG0 hY0 hcv hcc hsv hsc hrow hrow2 hKm hSm hMm hT hK hS hR hKl hSl hRl hkv hkc hrc
  go_wp2_with (go_at_call 15; refine (fixed11_any _).mono ?_; rintro e w1 ⟨rfl, hb⟩; refine Hid.out ?_)
  refine Nu.hid ?_
  have G1 := Nu.hid (HG0.out.later hb)
  have Y1 := Nu.hid (HY0.out.later hb)
  obtain ⟨x0, x1⟩ := G1.out.cells
  clear hb HG0 HY0
  go_wp2_with (go_at_call 16; refine (HCK.out _ G1.out).mono ?_; rintro e w2 ⟨rfl, hb⟩; refine Hid.out ?_)
  refine Nu.hid ?_
  have G2 := Nu.hid (G1.out.later hb)
  have Y2 := Nu.hid (Y1.out.later hb)
  clear hb G1 Y1 x0 x1
  obtain ⟨x0, x1⟩ := G2.out.cells
  go_wp2_with (go_at_call 16; refine (HCS.out _ G2.out Y2.out).mono ?_; rintro e w3 ⟨rfl, hb⟩; refine Hid.out ?_)
  refine Nu.hid ?_
  have G3 := Nu.hid (G2.out.later hb)
  have Y3 := Nu.hid (Y2.out.later hb)
  clear hb G2 Y2 x0 x1 HCK HCS
  obtain ⟨x0, x1⟩ := G3.out.cells
  by_cases hc : cc = 0
  · subst hc
    have hrot := HROT.out rfl
    obtain ⟨hqc, hqm, hqe, rfl, rfl, hql⟩ := HQ.out rfl
    have HQC := Nu.hid hqc
    have HQM := Nu.hid hqm
    have HQE := Nu.hid hqe
    have HQL := Nu.hid hql
    have hval := Si.valid_iff.1 hrot.val
    have hfew := hval.few
    have hlo := hval.lo
    have hhi := hval.hi
    obtain ⟨m, rfl⟩ : ∃ m : Nat, n = (m : Int) := ⟨n.toNat, by omega⟩
    have hlen := hrot.len
    have hlsb : ls.length ≤ 1048576 := by omega
    obtain ⟨M, hM⟩ : ∃ M, M = 2 * es.length := ⟨_, rfl⟩
    have hMb : M ≤ 8388608 := by omega
    have hmul : IntKind.i64.wrap (2 * (es.length : Int)) = (M : Int) := by rw [IntKind.wrap_i64]; omega
    have hmul2 : 2 * (es.length : Int) = (M : Int) := by omega
    rw [← hM] at HNX HNR
    have HRT := Nu.hid hrot
    have HVAL := Nu.hid hval
    have HM := Nu.hid hM
    clear hrot hqc hqm hqe hql hval hlo hhi hM hlen HROT HQ
    go_wp2_with (go_at_call 23; refine (HCA.out _ G3.out.rows).mono ?_; refine Hid.out ?_)
    refine Nu.hid ?_
    rintro e w4 ⟨po, pc, rfl, hp, hb⟩
    have C4 : Hid (CS w4 w (m : Int) ao ca es xo ls yo ms po K) := ⟨G3.out.later hb, Y3.out.later hb, hp⟩
    clear hb hp G3 Y3 x0 x1 HCA
    obtain ⟨x0, x1⟩ := C4.out.gr.cells
    go_wp2_with (go_at_call 16; refine (HKC.out _ _ _ C4.out.gr C4.out.rc).mono ?_; rintro e w5 ⟨rfl, hb⟩; refine Hid.out ?_)
    refine Nu.hid ?_
    have C5 := Nu.hid (C4.out.later hb)
    clear hb C4 x0 x1 HKC
    go_wp2_with (go_at_call 14; refine (HSK.out _ _ _ C5.out.rc C5.out.gr.rows).mono ?_; rintro e w6 ⟨rfl, hb⟩; refine Hid.out ?_)
    refine Nu.hid ?_
    have C6 := Nu.hid (C5.out.later hb)
    clear hb C5 HSK
    go_wp2_with (go_at_call 23; refine (HQC.out _ _ _ C6.out.rc).mono ?_; refine Hid.out ?_)
    refine Nu.hid ?_
    rintro e w7 ⟨qo, qc, rfl, hq7, hb⟩
    have C7 := Nu.hid (C6.out.later hb)
    have Q7 := Nu.hid hq7
    clear hb hq7 C6 HQC
    go_wp2_with (go_at_call 12; refine (HEK.out _ _ _ _ _ Q7.out C7.out.rc).mono ?_; rintro e w8 ⟨rfl, hb⟩; refine Hid.out ?_)
    refine Nu.hid ?_
    have C8 := Nu.hid (C7.out.later hb)
    clear hb C7 Q7
    go_wp2
    go_loopw [65] (fun c wr => ∃ k : Nat, k ≤ ls.length ∧ c = .int .i64 (k : Int) ∧ w8 = wr) (fun c _ => ls.length - (intOf c).toNat)
    case atStart => exact ⟨0, Nat.zero_le _, rfl, rfl⟩
    case round =>
      obtain ⟨k, hk, rfl, rfl⟩ := hrel
      by_cases hlt : k < ls.length
      · have hlti : (k : Int) < (ls.length : Int) := by omega
        have hk0 : (0 : Int) ≤ (k : Int) := by omega
        obtain ⟨l, hlk⟩ : ∃ l, K[k]? = some l := ⟨_, List.getElem?_eq_getElem (by rw [HKL.out]; exact hlt)⟩
        obtain ⟨b, o, A, C, rfl, hcell, hL, hln, -⟩ := C8.out.rc k l hlk
        have HL := Nu.hid hL
        have HMIN := Nu.hid (HQL.out l (List.mem_of_getElem? hlk))
        clear hL hlk
        go_wp2
        go_loopw [71] (fun c wr => ∃ i : Nat, i ≤ l.length ∧ c = .int .i64 (i : Int) ∧ w8 = wr) (fun c _ => l.length - (intOf c).toNat)
        case atStart => exact ⟨0, Nat.zero_le _, rfl, rfl⟩
        case round =>
          obtain ⟨i, hil, rfl, rfl⟩ := hrel
          by_cases hli : i < l.length
          · have hlii : (i : Int) < (l.length : Int) := by omega
            have hi00 : (0 : Int) ≤ (i : Int) := by omega
            obtain ⟨x, hxi⟩ : ∃ x, l[i]? = some x := ⟨_, List.getElem?_eq_getElem hli⟩
            obtain ⟨y, hyi⟩ : ∃ y, l[0]? = some y := ⟨_, List.getElem?_eq_getElem (by omega)⟩
            have hge : ¬ x < y := by have := HMIN.out y x hyi (List.mem_of_getElem? hxi); omega
            obtain ⟨lb, lo', rfl, lc⟩ := HL.out.elem hxi
            obtain ⟨lb', lo'', hle2, lc'⟩ := HL.out.elem hyi
            cases hle2
            have hl0 : (0 : Int) < (l.length : Int) := by omega
            have hwi : IntKind.i64.wrap ((i : Int) + 1) = (i : Int) + 1 := by rw [IntKind.wrap_i64]; omega
            rw [Nat.add_zero] at lc'
            clear hxi hyi
            go_wp2
            go_roundw
            case rel => exact ⟨i + 1, by omega, by go_num, by first | rfl | trivial⟩
            case measure => simp [intOf]; omega
          · have hlii : ¬ (i : Int) < (l.length : Int) := by omega
            go_wp2
            go_roundw
            case rel => exact ⟨k + 1, by omega, by go_num, by first | rfl | trivial⟩
            case measure => simp [intOf]; omega
      · have hlti : ¬ (k : Int) < (ls.length : Int) := by omega
        obtain rfl : k = ls.length := by omega
        by_cases hsc : sc = 0
        · subst hsc
          have hTT : (T != T) = false := by simp
          go_wp2_with (go_at_call 14; refine (HSS.out _ C8.out.gr.rows C8.out.ry).mono ?_; rintro e w9 ⟨rfl, hb⟩; refine Hid.out ?_)
          refine Nu.hid ?_
          have C9 := Nu.hid (C8.out.later hb)
          clear hb C8
          go_wp2_with (go_at_call 23; refine (HCB.out _ C9.out.ry).mono ?_; refine Hid.out ?_)
          refine Nu.hid ?_
          rintro e w10 ⟨qo, qc, rfl, hq10, hb⟩
          have C10 := Nu.hid (C9.out.later hb)
          have Q10 := Nu.hid hq10
          clear hb hq10 C9
          go_wp2_with (go_at_call 12; refine (HQE.out _ _ _ _ _ C10.out.rc Q10.out).mono ?_; rintro e w11 ⟨rfl, hb⟩; refine Hid.out ?_)
          refine Nu.hid ?_
          have C11 := Nu.hid (C10.out.later hb)
          clear hb C10 Q10 HCB HSS HQE
          go_wp2_with (go_at_call 13; refine (HMI.out _ C11.out.gr.rows).mono ?_; refine Hid.out ?_)
          refine Nu.hid ?_
          rintro e w20 ⟨mo, mc, rfl, hr20, hb⟩
          have C20 := Nu.hid (C11.out.later hb)
          have M20 := Nu.hid hr20
          clear hb hr20 C11 HMI
          go_wp2_with (go_at_call 13; refine (HQM.out _ _ _ M20.out).mono ?_; refine Hid.out ?_)
          refine Nu.hid ?_
          rintro e w21 ⟨no, nc, rfl, hr21, hb⟩
          have C21 := Nu.hid (C20.out.later hb)
          have M21 := Nu.hid (M20.out.later hb)
          have N21 := Nu.hid hr21
          clear hb hr21 C20 M20 HQM
          go_wp2_with (go_at_call 12; refine (HEK.out _ _ _ _ _ N21.out C21.out.rc).mono ?_; rintro e w22 ⟨rfl, hb⟩; refine Hid.out ?_)
          refine Nu.hid ?_
          have C22 := Nu.hid (C21.out.later hb)
          have M22 := Nu.hid (M21.out.later hb)
          clear hb C21 M21 N21 HEK
          obtain ⟨x0, x1⟩ := C22.out.gr.cells
          go_wp2_with (go_at_call 18; refine (HNX.out _ C22.out.gr).mono ?_; refine Hid.out ?_)
          refine Nu.hid ?_
          rintro e w23 ⟨hb, ⟨h, -⟩ | ⟨-, gn, rfl, -, hi⟩⟩
          · exact absurd rfl h
          have C23 := Nu.hid (C22.out.later hb)
          have M23 := Nu.hid (M22.out.later hb)
          have I23 := Nu.hid hi
          clear hb hi C22 M22 x0 x1 HNX
          obtain ⟨x0, x1⟩ := C23.out.gr.cells
          go_wp2_with (go_at_call 18; refine (HNR.out _ _ _ C23.out.gr M23.out).mono ?_; refine Hid.out ?_)
          refine Nu.hid ?_
          rintro e w24 ⟨hb, ⟨h, -⟩ | ⟨-, gb, rfl, -, hi⟩⟩
          · exact absurd rfl h
          have C24 := Nu.hid (C23.out.later hb)
          have I24 := Nu.hid (I23.out.later hb)
          have J24 := Nu.hid hi
          clear hb hi C23 M23 I23 x0 x1 HNR
          obtain ⟨x0, x1⟩ := C24.out.gr.cells
          go_wp2
          go_loopw [133] (fun c wr => ∃ k : Nat, k ≤ M ∧ c = .int .i64 (k : Int) ∧ w24 = wr) (fun c _ => M - (intOf c).toNat)
          case atStart => exact ⟨0, Nat.zero_le _, rfl, rfl⟩
          case round =>
            obtain ⟨j, hj, rfl, rfl⟩ := hrel
            by_cases hjl : j < M
            · have hjli : (j : Int) < (M : Int) := by omega
              have hj0 : (0 : Int) ≤ (j : Int) := by omega
              have hjm : j < 2 * es.length := by have := HM.out; omega
              have hvm := (Cs.half_lt HVAL.out hjm).1
              obtain ⟨t, ht, htm, hback⟩ := HRT.out.back hjm (by omega)
              rw [← HR.out] at hback
              have htM : (t : Int) < (M : Int) := by have := HM.out; omega
              have ht0 : (0 : Int) ≤ (t : Int) := by omega
              have c1 := I24.out.cell ht
              have c2 := J24.out.cell hback
              have hwj : IntKind.i64.wrap ((j : Int) + 1) = (j : Int) + 1 := by rw [IntKind.wrap_i64]; omega
              clear hjm hvm ht htm hback
              go_wp2
              go_roundw
              case rel => exact ⟨j + 1, by omega, by go_num, by first | rfl | trivial⟩
              case measure => simp [intOf]; omega
            · have hjli : ¬ (j : Int) < (M : Int) := by omega
              go_wp2
              go_ret
              exact ⟨rfl, C24.out.gr.low⟩
        · have j2 : (sc == 0) = false := beq_false_of_ne hsc
          clear HCB HSS HQE
          go_wp2_with (go_at_call 13; refine (HMI.out _ C8.out.gr.rows).mono ?_; refine Hid.out ?_)
          refine Nu.hid ?_
          rintro e w20 ⟨mo, mc, rfl, hr20, hb⟩
          have C20 := Nu.hid (C8.out.later hb)
          have M20 := Nu.hid hr20
          clear hb hr20 C8 HMI
          go_wp2_with (go_at_call 13; refine (HQM.out _ _ _ M20.out).mono ?_; refine Hid.out ?_)
          refine Nu.hid ?_
          rintro e w21 ⟨no, nc, rfl, hr21, hb⟩
          have C21 := Nu.hid (C20.out.later hb)
          have M21 := Nu.hid (M20.out.later hb)
          have N21 := Nu.hid hr21
          clear hb hr21 C20 M20 HQM
          go_wp2_with (go_at_call 12; refine (HEK.out _ _ _ _ _ N21.out C21.out.rc).mono ?_; rintro e w22 ⟨rfl, hb⟩; refine Hid.out ?_)
          refine Nu.hid ?_
          have C22 := Nu.hid (C21.out.later hb)
          have M22 := Nu.hid (M21.out.later hb)
          clear hb C21 M21 N21 HEK
          obtain ⟨x0, x1⟩ := C22.out.gr.cells
          go_wp2_with (go_at_call 18; refine (HNX.out _ C22.out.gr).mono ?_; refine Hid.out ?_)
          refine Nu.hid ?_
          rintro e w23 ⟨hb, ⟨h, -⟩ | ⟨-, gn, rfl, -, hi⟩⟩
          · exact absurd rfl h
          have C23 := Nu.hid (C22.out.later hb)
          have M23 := Nu.hid (M22.out.later hb)
          have I23 := Nu.hid hi
          clear hb hi C22 M22 x0 x1 HNX
          obtain ⟨x0, x1⟩ := C23.out.gr.cells
          go_wp2_with (go_at_call 18; refine (HNR.out _ _ _ C23.out.gr M23.out).mono ?_; refine Hid.out ?_)
          refine Nu.hid ?_
          rintro e w24 ⟨hb, ⟨h, -⟩ | ⟨-, gb, rfl, -, hi⟩⟩
          · exact absurd rfl h
          have C24 := Nu.hid (C23.out.later hb)
          have I24 := Nu.hid (I23.out.later hb)
          have J24 := Nu.hid hi
          clear hb hi C23 M23 I23 x0 x1 HNR
          obtain ⟨x0, x1⟩ := C24.out.gr.cells
          go_wp2
          go_loopw [133] (fun c wr => ∃ k : Nat, k ≤ M ∧ c = .int .i64 (k : Int) ∧ w24 = wr) (fun c _ => M - (intOf c).toNat)
          case atStart => exact ⟨0, Nat.zero_le _, rfl, rfl⟩
          case round =>
            obtain ⟨j, hj, rfl, rfl⟩ := hrel
            by_cases hjl : j < M
            · have hjli : (j : Int) < (M : Int) := by omega
              have hj0 : (0 : Int) ≤ (j : Int) := by omega
              have hjm : j < 2 * es.length := by have := HM.out; omega
              have hvm := (Cs.half_lt HVAL.out hjm).1
              obtain ⟨t, ht, htm, hback⟩ := HRT.out.back hjm (by omega)
              rw [← HR.out] at hback
              have htM : (t : Int) < (M : Int) := by have := HM.out; omega
              have ht0 : (0 : Int) ≤ (t : Int) := by omega
              have c1 := I24.out.cell ht
              have c2 := J24.out.cell hback
              have hwj : IntKind.i64.wrap ((j : Int) + 1) = (j : Int) + 1 := by rw [IntKind.wrap_i64]; omega
              clear hjm hvm ht htm hback
              go_wp2
              go_roundw
              case rel => exact ⟨j + 1, by omega, by go_num, by first | rfl | trivial⟩
              case measure => simp [intOf]; omega
            · have hjli : ¬ (j : Int) < (M : Int) := by omega
              go_wp2
              go_ret
              exact ⟨rfl, C24.out.gr.low⟩
  · have j1 : (cc != 0) = true := by simp [hc]
    go_wp2
    go_ret
    exact ⟨rfl, G3.out.low⟩

set_option maxRecDepth 100000 in
/-- What the walk gives, for every argument and every world. -/
theorem contract (H : Type) (enc : TypeId × Value → H) (W : World) (base : Nat) (args : Array Value) (ds gs : List (DataW H)) (before : List MemPlace)
    (hval : ∀ (j : Nat) t v, Try.f7.params[j]? = some t → args[j]? = some v → Value.okWide Try.prog W .any base t v)
    (hW : DataW.Whole enc Try.prog Try.f7.params.toList Rows.rotCanonSpec.vars false W args.toList ds gs before)
    (hsz : (DataW.weightsEach Try.prog (Try.f7.params.toList ++ (OpenSpec.ofChange Rows.rotCanonSpec).bare.plain.varTypes Try.prog) (ds ++ gs)).all (· ≤ reachBytes) = true)
    :
    Calls Try.prog 7 args W fun e W' => ∃ v, e = .returned v ∧ Rows.rotCanonSpec.post enc Try.prog Try.f7 false true false false W args v W' := by
  have hW' := hW
  obtain ⟨p, q, hA0, hV, rfl, hfz, hnd⟩ := hW
  have hA : DataW.TrodAll enc Try.prog W 0 (fun _ => true) true Try.f7.params.toList args.toList ds p := hA0
  rw [Try.params7] at hA hval hsz
  obtain ⟨v0, vs0, d0, ds0, p0, q0, hargs, rfl, rfl, h0, r0⟩ := trodAll_cons hA
  obtain ⟨v1, vs1, d1, ds1, p1, q1, rfl, rfl, rfl, h1, r1⟩ := trodAll_cons r0
  obtain ⟨v2, vs2, d2, ds2, p2, q2, rfl, rfl, rfl, h2, r2⟩ := trodAll_cons r1
  obtain ⟨rfl, rfl, rfl⟩ := trodAll_nil r2
  obtain rfl : args = #[v0, v1, v2] := by cases args; simp_all
  obtain ⟨rfl, rfl⟩ := trodVars_none hV
  have k0 := h0
  have lt0 : ∀ x ∈ p0, x.block < W.heap.size := by obtain ⟨m, hm⟩ := k0; exact DataW.trod_lt m _ _ _ hm
  obtain ⟨n0, a0, cap0, q0, rfl, x0, w0, u0⟩ := graph_of_trod (j := 0) (hval 0 30 v0 rfl rfl) h0 hsz rfl rfl
  obtain ⟨a1, len1, cap1, rfl⟩ := okWide_slice Try.underlying24 (hval 1 24 v1 rfl rfl)
  have k1 := h1
  have lt1 : ∀ x ∈ p1, x.block < W.heap.size := by obtain ⟨m, hm⟩ := k1; exact DataW.trod_lt m _ _ _ hm
  obtain ⟨q1, w1⟩ := rows_of_trod (j := 1) Try.underlying24 h1 hsz rfl rfl
  have l1 := w1.hlen
  subst l1
  obtain ⟨a2, len2, cap2, rfl⟩ := okWide_slice Try.underlying24 (hval 2 24 v2 rfl rfl)
  have k2 := h2
  have lt2 : ∀ x ∈ p2, x.block < W.heap.size := by obtain ⟨m, hm⟩ := k2; exact DataW.trod_lt m _ _ _ hm
  obtain ⟨q2, w2⟩ := rows_of_trod (j := 2) Try.underlying24 h2 hsz rfl rfl
  have l2 := w2.hlen
  subst l2
  clear hA0
  refine (walk n0 a0 cap0 q0 a1 cap1 q1 a2 cap2 q2 W x0 w0 u0 w1 w2).mono fun e W' ⟨he, bel⟩ => ?_
  subst he
  exact ⟨_, rfl, _, _, _, [], _, [], hW', trodAll_mk1 (shut_bool Try.underlying4 _), (trodAll_cons_mk (Below.trod laidOut (by kernel_rfl) (of_decide_eq_true (by kernel_rfl)) k0 bel lt0) (trodAll_cons_mk (Below.trod laidOut (by kernel_rfl) (of_decide_eq_true (by kernel_rfl)) k1 bel lt1) (trodAll_cons_mk (Below.trod laidOut (by kernel_rfl) (of_decide_eq_true (by kernel_rfl)) k2 bel lt2) trodAll_mk0))), rfl, bel.frame _, fun h => by cases h⟩

theorem laid_met (os : Os) : laidMet Try.prog Rows.rotCanonRow.laid ((settled os).forCall (fun _ _ => 0) ⟨#[], #[.agg #[.int .i64 0, .slice none 0 0], .slice none 0 0, .slice none 0 0], []⟩).memory :=
  laidMet_of_run' 100 (by kernel_rfl) (by kernel_rfl)
theorem reads (os : Os) {H : Type} (enc : TypeId × Value → H) : ∃ places, DataW.whole enc Try.prog ((settled os).forCall (fun _ _ => 0) ⟨#[], #[.agg #[.int .i64 0, .slice none 0 0], .slice none 0 0, .slice none 0 0], []⟩).memory Try.f7.params.toList Rows.rotCanonSpec.vars false (#[.agg #[.int .i64 0, .slice none 0 0], .slice none 0 0, .slice none 0 0] : Array Value).toList 8 = some ([.agg [.lit (.int .i64 0), .nil], .nil, .nil], [], places) :=
  ⟨[], by kernel_rfl⟩

set_option maxRecDepth 100000 in
theorem lifted (os : Os) (started : os.Started) (H : Type) (enc : TypeId × Value → H) (F : Stop.Interp) :
    ReturnsInHanded {} Try.checked os 7 .any ((OpenSpec.ofChange Rows.rotCanonSpec).preRow enc Try.prog Try.f7 Rows.rotCanonRow.domain false Rows.rotCanonRow.laid) (((OpenSpec.ofChange Rows.rotCanonSpec).at F).post enc Try.prog Try.f7 false true false false) := by
  obtain ⟨places, hx⟩ := reads os enc
  refine returnsInHanded_of_row (C := Try.checked) (s := (OpenSpec.ofChange Rows.rotCanonSpec)) own started (by kernel_rfl) Try.func7
    (witness_row_at (enc := enc) (C := Try.checked) false (settled os) #[.agg #[.int .i64 0, .slice none 0 0], .slice none 0 0, .slice none 0 0] rfl (by kernel_rfl) (by kernel_rfl) (by kernel_rfl)
      (OpenSpec.preRow_of_cond 8 hx (by kernel_rfl) (fun k hk => by cases hk) (by kernel_rfl) (laid_met os))) ?_
  intro W base args ds gs before hval hW _ _ hsz _ _ _
  exact contract H enc W base args ds gs before hval hW hsz 

theorem said : Rows.RotCanonSaid :=
  OpenClaim.holds_of_cond 7 Try.f7 rfl rfl rfl rfl rfl rfl rfl ⟨rfl, rfl, rfl, rfl, rfl⟩ rfl rfl rfl rfl rfl (by kernel_rfl) Try.func7 (by kernel_rfl)
    (of_decide_eq_true (by kernel_rfl)) (by unfold Func.isWrapper; first | (rw [if_pos (by decide +kernel)]; kernel_rfl) | (rw [if_neg (by decide +kernel)]; exact ⟨rfl, rfl⟩))
    (fun os started H enc _ F => by rw [OpenClaim.pre_eq_preRow]; exact lifted os started H enc F)

end lawRK

theorem rotCanon_holds : Rows.RotCanonSaid := lawRK.said

#print axioms rotCanon_holds
end Go.Proofs.Ytloabkgojopeaaa
