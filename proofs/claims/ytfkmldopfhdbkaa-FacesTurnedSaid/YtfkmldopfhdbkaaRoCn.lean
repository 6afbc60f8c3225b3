/-
  Canon and Mirror: the program.
-/
import Derived.Test.YtfkmldopfhdbkaaRoRv
import Derived.Test.YtfkmldopfhdbkaaMg10
namespace Go.Proofs.Ytfkmldopfhdbkaa
open Go.RowKit

set_option maxRecDepth 100000 in
set_option maxHeartbeats 8000000 in
theorem canon_any (xo : Option Addr) (xc : Nat) (ls : List (List Int)) (w : World) (hx : RwsAt w xo ls) (hl : ls.length ≤ 5864062014805) :
    Calls Try.prog 25 #[.slice xo ls.length xc] w (RowsPost (ls.map Ro.canon1) w) := by
  obtain ⟨i0, hi, hz0, hz1, hz2⟩ := info_parts Try.infoRow
  have HX := Nu.hid hx
  obtain ⟨N, hN⟩ : ∃ N, N = ls.length := ⟨_, rfl⟩
  rw [← hN] at hl ⊢
  have HN := Nu.hid hN
  clear hx hN
  go_enter Try.func25, Try.ntmps25
  go_wp2_with (at_make; refine wpList_make_full _ rfl _ _ 26 rfl w.heap.size 36 i0 (.slice none 0 0) 1 Try.underlying26 hi hz0 hz1 _ _ _ _ N rfl rfl rfl rfl (by rw [hz2]; omega) (by unfold maxLen; omega) (Nat.le_refl _) ?_; refine Hid.out ?_)
  refine Nu.hid ?_
  intro w2 hrow hg2
  have hmade := RowsZ.made hrow
  rw [HN.out, ← Ro.fill_zero Ro.canon1] at hmade
  have hb2 : Below w.heap.size w w2 := (Below.refl _ _).grown hg2 (Nat.le_refl _) (fun j hj => by cases hj)
  rw [← HN.out] at hmade
  have HM := Nu.hid hmade
  have HB2 := Nu.hid hb2
  clear hrow hg2 hb2 hmade
  go_wp2
  go_loopw [11] (fun c wr => ∃ (k : Nat) (vs : List Value), k ≤ N ∧ c = .int .i64 (k : Int) ∧ RowsZ wr w.heap.size (.slice (some ⟨w.heap.size, 0, none⟩) N N) vs (Ro.fill Ro.canon1 ls k) ∧ Below w.heap.size w wr) (fun c _ => N - (intOf c).toNat)
  case atStart => exact ⟨0, _, Nat.zero_le _, rfl, HM.out, HB2.out⟩
  case round =>
    clear HM HB2
    obtain ⟨k, vs, hk, rfl, hr, hb⟩ := hrel
    have HR := Nu.hid hr
    have HB := Nu.hid hb
    have hws := hb.size
    clear hr hb
    by_cases hlt : k < N
    · have hlti : (k : Int) < (N : Int) := by omega
      have hk0 : (0 : Int) ≤ (k : Int) := by omega
      obtain ⟨l, hlk⟩ : ∃ l, ls[k]? = some l := ⟨_, List.getElem?_eq_getElem (by have := HN.out; omega)⟩
      obtain ⟨b, o, A, C, rfl, hc, hL, hln, hlc, hCb⟩ := HX.out k l hlk
      have hbl : b < w.heap.size := block_lt_of_cell hc
      have hcr := (HB.out.cell (p := ⟨b, o + k, none⟩) hbl).trans hc
      have HLW := Nu.hid (hL.later HB.out)
      obtain ⟨p1, hp1⟩ : ∃ p1, l.length = p1 := ⟨_, rfl⟩
      rw [hp1] at hcr hln hlc HLW
      have HLK := Nu.hid hlk
      clear hc hL hlk hp1
      have HC := Nu.hid (leastFirst_any A C p1 l wr HLW.out hln hlc hCb)
      go_wp2_with (go_at_call 45; refine HC.out.mono ?_; refine Hid.out ?_)
      refine Nu.hid ?_
      rintro e V1 ⟨v', rfl, ho, hb1⟩

      obtain ⟨⟨y, hy⟩, hfr, hst, hbs⟩ := HR.out.store (Ro.fill_len Ro.canon1 ls (by have := HN.out; omega) |>.trans HN.out.symm) hlt hb1 ho hws
      rw [Ro.fill_set (f := Ro.canon1) HLK.out] at hst
      obtain ⟨A1, C1, e1, -, -⟩ := ho.form
      subst e1
      generalize (Ro.canon1 l).length = q at *
      have HST := Nu.hid hst
      have HBS := Nu.hid (HB.out.trans hbs)
      clear ho hb1 hst hbs
      go_wp2
      go_roundw
      case rel => exact ⟨k + 1, _, by omega, by go_num, HST.out, HBS.out⟩
      case measure => simp [intOf]; omega
    · have hlti : ¬ (k : Int) < (N : Int) := by omega
      obtain rfl : k = N := by omega
      go_wp2
      go_ret
      have h1 := HR.out
      rw [HN.out, Ro.fill_all] at h1
      exact ⟨_, _, by rw [HN.out]; rfl, h1, HB.out⟩

set_option maxRecDepth 100000 in
set_option maxHeartbeats 8000000 in
theorem mirror_any (xo : Option Addr) (xc : Nat) (ls : List (List Int)) (w : World) (hx : RwsAt w xo ls) (hl : ls.length ≤ 5864062014805) :
    Calls Try.prog 26 #[.slice xo ls.length xc] w (RowsPost (ls.map (fun l => Ro.canon1 l.reverse)) w) := by
  obtain ⟨i0, hi, hz0, hz1, hz2⟩ := info_parts Try.infoRow
  have HX := Nu.hid hx
  obtain ⟨N, hN⟩ : ∃ N, N = ls.length := ⟨_, rfl⟩
  rw [← hN] at hl ⊢
  have HN := Nu.hid hN
  clear hx hN
  go_enter Try.func26, Try.ntmps26
  go_wp2_with (at_make; refine wpList_make_full _ rfl _ _ 26 rfl w.heap.size 36 i0 (.slice none 0 0) 1 Try.underlying26 hi hz0 hz1 _ _ _ _ N rfl rfl rfl rfl (by rw [hz2]; omega) (by unfold maxLen; omega) (Nat.le_refl _) ?_; refine Hid.out ?_)
  refine Nu.hid ?_
  intro w2 hrow hg2
  have hmade := RowsZ.made hrow
  rw [HN.out, ← Ro.fill_zero (fun l => Ro.canon1 l.reverse)] at hmade
  have hb2 : Below w.heap.size w w2 := (Below.refl _ _).grown hg2 (Nat.le_refl _) (fun j hj => by cases hj)
  rw [← HN.out] at hmade
  have HM := Nu.hid hmade
  have HB2 := Nu.hid hb2
  clear hrow hg2 hb2 hmade
  go_wp2
  go_loopw [11] (fun c wr => ∃ (k : Nat) (vs : List Value), k ≤ N ∧ c = .int .i64 (k : Int) ∧ RowsZ wr w.heap.size (.slice (some ⟨w.heap.size, 0, none⟩) N N) vs (Ro.fill (fun l => Ro.canon1 l.reverse) ls k) ∧ Below w.heap.size w wr) (fun c _ => N - (intOf c).toNat)
  case atStart => exact ⟨0, _, Nat.zero_le _, rfl, HM.out, HB2.out⟩
  case round =>
    clear HM HB2
    obtain ⟨k, vs, hk, rfl, hr, hb⟩ := hrel
    have HR := Nu.hid hr
    have HB := Nu.hid hb
    have hws := hb.size
    clear hr hb
    by_cases hlt : k < N
    · have hlti : (k : Int) < (N : Int) := by omega
      have hk0 : (0 : Int) ≤ (k : Int) := by omega
      obtain ⟨l, hlk⟩ : ∃ l, ls[k]? = some l := ⟨_, List.getElem?_eq_getElem (by have := HN.out; omega)⟩
      obtain ⟨b, o, A, C, rfl, hc, hL, hln, hlc, hCb⟩ := HX.out k l hlk
      have hbl : b < w.heap.size := block_lt_of_cell hc
      have hcr := (HB.out.cell (p := ⟨b, o + k, none⟩) hbl).trans hc
      have HLW := Nu.hid (hL.later HB.out)
      obtain ⟨p1, hp1⟩ : ∃ p1, l.length = p1 := ⟨_, rfl⟩
      rw [hp1] at hcr hln hlc HLW
      have HLK := Nu.hid hlk
      clear hc hL hlk hp1
      have HC := Nu.hid (backward11_any A p1 C l wr HLW.out hln)
      go_wp2_with (go_at_call 46; refine HC.out.mono ?_; refine Hid.out ?_)
      refine Nu.hid ?_
      rintro e V0 ⟨v0, rfl, ho0, hb0⟩
      obtain ⟨A0, C0, rfl, hL0, -⟩ := ho0.lst
      have hC0 : l.reverse.length ≤ C0 ∧ C0 ≤ 9223372036854775807 := by
        rcases ho0.2 with ⟨h', h0⟩ | ⟨g', cap, cur, h', _, _, hlc, hm, _⟩
        · obtain ⟨-, -, hc0⟩ := Value.slice.inj h'
          exact ⟨by omega, by omega⟩
        · cases h'; exact ⟨hlc, by unfold maxLen at hm; omega⟩
      have hq0 : l.reverse.length ≤ 17592186043904 := by rw [List.length_reverse]; have := HLW.out.len; omega
      generalize l.reverse.length = q0 at *
      have HC1 := Nu.hid (leastFirst_any A0 C0 q0 l.reverse V0 hL0 hq0 hC0.1 hC0.2)
      have HB0 := Nu.hid hb0
      clear ho0 hL0 hb0 hC0 hq0
      go_wp2_with (go_at_call 45; refine HC1.out.mono ?_; refine Hid.out ?_)
      refine Nu.hid ?_
      rintro e V1 ⟨v', rfl, ho, hb1⟩
      have ho := ho.lower HB0.out.size
      have hb1 := HB0.out.trans (hb1.mono HB0.out.size)
      clear HB0

      obtain ⟨⟨y, hy⟩, hfr, hst, hbs⟩ := HR.out.store (Ro.fill_len (fun l => Ro.canon1 l.reverse) ls (by have := HN.out; omega) |>.trans HN.out.symm) hlt hb1 ho hws
      rw [Ro.fill_set (f := (fun l => Ro.canon1 l.reverse)) HLK.out] at hst
      obtain ⟨A1, C1, e1, -, -⟩ := ho.form
      subst e1
      generalize (Ro.canon1 l.reverse).length = q at *
      have HST := Nu.hid hst
      have HBS := Nu.hid (HB.out.trans hbs)
      clear ho hb1 hst hbs
      go_wp2
      go_roundw
      case rel => exact ⟨k + 1, _, by omega, by go_num, HST.out, HBS.out⟩
      case measure => simp [intOf]; omega
    · have hlti : ¬ (k : Int) < (N : Int) := by omega
      obtain rfl : k = N := by omega
      go_wp2
      go_ret
      have h1 := HR.out
      rw [HN.out, Ro.fill_all] at h1
      exact ⟨_, _, by rw [HN.out]; rfl, h1, HB.out⟩

end Go.Proofs.Ytfkmldopfhdbkaa
