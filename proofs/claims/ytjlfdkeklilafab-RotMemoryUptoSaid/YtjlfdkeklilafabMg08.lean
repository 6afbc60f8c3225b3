import Derived.Test.YtjlfdkeklilafabMg06
import Derived.Test.YtjlfdkeklilafabMg07
import Derived.Test.YtjlfdkeklilafabMg02
import Derived.Deep.QuietTactic
import Derived.BigQuiet
import Derived.Test.YtjlfdkeklilafabMg01
import Derived.Test.YtjlfdkeklilafabMg04
import Derived.Test.YtjlfdkeklilafabMg05
/-
  Canon and Mirror: the program.
-/
namespace Go.Proofs.Ytjlfdkeklilafab
open Go.RowKit

set_option maxRecDepth 100000 in
set_option maxHeartbeats 8000000 in
theorem canon_any (xo : Option Addr) (xc : Nat) (ls : List (List Int)) (w : World) (hx : RwsAt w xo ls) (hl : ls.length ≤ 5864062014805) :
    Calls Try.prog 14 #[.slice xo ls.length xc] w (RowsPost (ls.map Ro.canon1) w) := by
  obtain ⟨i0, hi, hz0, hz1, hz2⟩ := info_parts Try.infoRow
  have HX := Nu.hid hx
  obtain ⟨N, hN⟩ : ∃ N, N = ls.length := ⟨_, rfl⟩
  rw [← hN] at hl ⊢
  have HN := Nu.hid hN
  clear hx hN
  go_enter Try.func14, Try.ntmps14
  go_wp2_with (at_make; refine wpList_make_full _ rfl _ _ 26 rfl w.heap.size 39 i0 (.slice none 0 0) 1 Try.underlying26 hi hz0 hz1 _ _ _ _ N rfl rfl rfl rfl (by rw [hz2]; omega) (by unfold maxLen; omega) (Nat.le_refl _) ?_; refine Hid.out ?_)
  refine Nu.hid ?_
  intro w2 hrow hg2
  have hmade := RowsZ.made hrow
  rw [HN.out, ← Ro.fill_zero Ro.canon1] at hmade
  have hb2 : Below w.heap.size w w2 := (Below.refl _ _).grown hg2 (Nat.le_refl _) (fun j hj => by cases hj)
  rw [← HN.out] at hmade
  have HM := Nu.hid hmade
  have HB2 := Nu.hid hb2
  clear hrow hg2 hb2 hmade
  go_wp2
  go_loopw [11] (fun c wr => ∃ (k : Nat) (vs : List Value), k ≤ N ∧ c = .int .i64 (k : Int) ∧ RowsZ wr w.heap.size (.slice (some ⟨w.heap.size, 0, none⟩) N N) vs (Ro.fill Ro.canon1 ls k) ∧ Below w.heap.size w wr) (fun c _ => N - (intOf c).toNat)
  case atStart => exact ⟨0, _, Nat.zero_le _, rfl, HM.out, HB2.out⟩
  case round =>
    clear HM HB2
    obtain ⟨k, vs, hk, rfl, hr, hb⟩ := hrel
    have HR := Nu.hid hr
    have HB := Nu.hid hb
    have hws := hb.size
    clear hr hb
    by_cases hlt : k < N
    · have hlti : (k : Int) < (N : Int) := by omega
      have hk0 : (0 : Int) ≤ (k : Int) := by omega
      obtain ⟨l, hlk⟩ : ∃ l, ls[k]? = some l := ⟨_, List.getElem?_eq_getElem (by have := HN.out; omega)⟩
      obtain ⟨b, o, A, C, rfl, hc, hL, hln, hlc, hCb⟩ := HX.out k l hlk
      have hbl : b < w.heap.size := block_lt_of_cell hc
      have hcr := (HB.out.cell (p := ⟨b, o + k, none⟩) hbl).trans hc
      have HLW := Nu.hid (hL.later HB.out)
      obtain ⟨p1, hp1⟩ : ∃ p1, l.length = p1 := ⟨_, rfl⟩
      rw [hp1] at hcr hln hlc HLW
      have HLK := Nu.hid hlk
      clear hc hL hlk hp1
      have HC := Nu.hid (leastFirst_any A C p1 l wr HLW.out hln hlc hCb)
      go_wp2_with (go_at_call 30; refine HC.out.mono ?_; refine Hid.out ?_)
      refine Nu.hid ?_
      rintro e V1 ⟨v', rfl, ho, hb1⟩

      obtain ⟨⟨y, hy⟩, hfr, hst, hbs⟩ := HR.out.store (Ro.fill_len Ro.canon1 ls (by have := HN.out; omega) |>.trans HN.out.symm) hlt hb1 ho hws
      rw [Ro.fill_set (f := Ro.canon1) HLK.out] at hst
      obtain ⟨A1, C1, e1, -, -⟩ := ho.form
      subst e1
      generalize (Ro.canon1 l).length = q at *
      have HST := Nu.hid hst
      have HBS := Nu.hid (HB.out.trans hbs)
      clear ho hb1 hst hbs
      go_wp2
      go_roundw
      case rel => exact ⟨k + 1, _, by omega, by go_num, HST.out, HBS.out⟩
      case measure => simp [intOf]; omega
    · have hlti : ¬ (k : Int) < (N : Int) := by omega
      obtain rfl : k = N := by omega
      go_wp2
      go_ret
      have h1 := HR.out
      rw [HN.out, Ro.fill_all] at h1
      exact ⟨_, _, by rw [HN.out]; rfl, h1, HB.out⟩

set_option maxRecDepth 100000 in
set_option maxHeartbeats 8000000 in
theorem mirror_any (xo : Option Addr) (xc : Nat) (ls : List (List Int)) (w : World) (hx : RwsAt w xo ls) (hl : ls.length ≤ 5864062014805) :
    Calls Try.prog 16 #[.slice xo ls.length xc] w (RowsPost (ls.map (fun l => Ro.canon1 l.reverse)) w) := by
  obtain ⟨i0, hi, hz0, hz1, hz2⟩ := info_parts Try.infoRow
  have HX := Nu.hid hx
  obtain ⟨N, hN⟩ : ∃ N, N = ls.length := ⟨_, rfl⟩
  rw [← hN] at hl ⊢
  have HN := Nu.hid hN
  clear hx hN
  go_enter Try.func16, Try.ntmps16
  go_wp2_with (at_make; refine wpList_make_full _ rfl _ _ 26 rfl w.heap.size 39 i0 (.slice none 0 0) 1 Try.underlying26 hi hz0 hz1 _ _ _ _ N rfl rfl rfl rfl (by rw [hz2]; omega) (by unfold maxLen; omega) (Nat.le_refl _) ?_; refine Hid.out ?_)
  refine Nu.hid ?_
  intro w2 hrow hg2
  have hmade := RowsZ.made hrow
  rw [HN.out, ← Ro.fill_zero (fun l => Ro.canon1 l.reverse)] at hmade
  have hb2 : Below w.heap.size w w2 := (Below.refl _ _).grown hg2 (Nat.le_refl _) (fun j hj => by cases hj)
  rw [← HN.out] at hmade
  have HM := Nu.hid hmade
  have HB2 := Nu.hid hb2
  clear hrow hg2 hb2 hmade
  go_wp2
  go_loopw [11] (fun c wr => ∃ (k : Nat) (vs : List Value), k ≤ N ∧ c = .int .i64 (k : Int) ∧ RowsZ wr w.heap.size (.slice (some ⟨w.heap.size, 0, none⟩) N N) vs (Ro.fill (fun l => Ro.canon1 l.reverse) ls k) ∧ Below w.heap.size w wr) (fun c _ => N - (intOf c).toNat)
  case atStart => exact ⟨0, _, Nat.zero_le _, rfl, HM.out, HB2.out⟩
  case round =>
    clear HM HB2
    obtain ⟨k, vs, hk, rfl, hr, hb⟩ := hrel
    have HR := Nu.hid hr
    have HB := Nu.hid hb
    have hws := hb.size
    clear hr hb
    by_cases hlt : k < N
    · have hlti : (k : Int) < (N : Int) := by omega
      have hk0 : (0 : Int) ≤ (k : Int) := by omega
      obtain ⟨l, hlk⟩ : ∃ l, ls[k]? = some l := ⟨_, List.getElem?_eq_getElem (by have := HN.out; omega)⟩
      obtain ⟨b, o, A, C, rfl, hc, hL, hln, hlc, hCb⟩ := HX.out k l hlk
      have hbl : b < w.heap.size := block_lt_of_cell hc
      have hcr := (HB.out.cell (p := ⟨b, o + k, none⟩) hbl).trans hc
      have HLW := Nu.hid (hL.later HB.out)
      obtain ⟨p1, hp1⟩ : ∃ p1, l.length = p1 := ⟨_, rfl⟩
      rw [hp1] at hcr hln hlc HLW
      have HLK := Nu.hid hlk
      clear hc hL hlk hp1
      have HC := Nu.hid (backward11_any A p1 C l wr HLW.out hln)
      go_wp2_with (go_at_call 32; refine HC.out.mono ?_; refine Hid.out ?_)
      refine Nu.hid ?_
      rintro e V0 ⟨v0, rfl, ho0, hb0⟩
      obtain ⟨A0, C0, rfl, hL0, -⟩ := ho0.lst
      have hC0 : l.reverse.length ≤ C0 ∧ C0 ≤ 9223372036854775807 := by
        rcases ho0.2 with ⟨h', h0⟩ | ⟨g', cap, cur, h', _, _, hlc, hm, _⟩
        · obtain ⟨-, -, hc0⟩ := Value.slice.inj h'
          exact ⟨by omega, by omega⟩
        · cases h'; exact ⟨hlc, by unfold maxLen at hm; omega⟩
      have hq0 : l.reverse.length ≤ 17592186043904 := by rw [List.length_reverse]; have := HLW.out.len; omega
      generalize l.reverse.length = q0 at *
      have HC1 := Nu.hid (leastFirst_any A0 C0 q0 l.reverse V0 hL0 hq0 hC0.1 hC0.2)
      have HB0 := Nu.hid hb0
      clear ho0 hL0 hb0 hC0 hq0
      go_wp2_with (go_at_call 30; refine HC1.out.mono ?_; refine Hid.out ?_)
      refine Nu.hid ?_
      rintro e V1 ⟨v', rfl, ho, hb1⟩
      have ho := ho.lower HB0.out.size
      have hb1 := HB0.out.trans (hb1.mono HB0.out.size)
      clear HB0

      obtain ⟨⟨y, hy⟩, hfr, hst, hbs⟩ := HR.out.store (Ro.fill_len (fun l => Ro.canon1 l.reverse) ls (by have := HN.out; omega) |>.trans HN.out.symm) hlt hb1 ho hws
      rw [Ro.fill_set (f := (fun l => Ro.canon1 l.reverse)) HLK.out] at hst
      obtain ⟨A1, C1, e1, -, -⟩ := ho.form
      subst e1
      generalize (Ro.canon1 l.reverse).length = q at *
      have HST := Nu.hid hst
      have HBS := Nu.hid (HB.out.trans hbs)
      clear ho hb1 hst hbs
      go_wp2
      go_roundw
      case rel => exact ⟨k + 1, _, by omega, by go_num, HST.out, HBS.out⟩
      case measure => simp [intOf]; omega
    · have hlti : ¬ (k : Int) < (N : Int) := by omega
      obtain rfl : k = N := by omega
      go_wp2
      go_ret
      have h1 := HR.out
      rw [HN.out, Ro.fill_all] at h1
      exact ⟨_, _, by rw [HN.out]; rfl, h1, HB.out⟩

end Go.Proofs.Ytjlfdkeklilafab

/-
  The document's own Alike.
-/
namespace Go.Proofs.Ytjlfdkeklilafab
open Go.RowKit

set_option maxRecDepth 100000 in
set_option maxHeartbeats 4000000 in
theorem alike_any (ao bo : Option Addr) (ca cb n m : Nat) (l l' : List Int) (w : World) (hn : l.length = n) (hm : l'.length = m) (ha : IntsAt w ao l) (hb : IntsAt w bo l') (hl : n ≤ 4611686018427387904) :
    Calls Try.prog 18 #[.slice ao n ca, .slice bo m cb] w fun e w' => e = .returned (.bool (decide (l = l'))) ∧ Below w.heap.size w w' := by
  have HA := Nu.hid ha
  have HB := Nu.hid hb
  have HN := Nu.hid hn
  have HM := Nu.hid hm
  clear ha hb
  by_cases hll : n = m
  · have j1 : ((n : Int) != (m : Int)) = false := by simp [hll]
    have HLL := Nu.hid hll
    have hnm : (n : Int) = (m : Int) := by omega
    clear hll hn hm
    go_enter Try.func18, Try.ntmps18
    have HNM := Nu.hid hnm
    clear hnm
    go_wp2
    go_loopw [5] (fun c wr => ∃ k : Nat, k ≤ n ∧ c = .int .i64 k ∧ (∀ j, j < k → l[j]? = l'[j]?) ∧ Below w.heap.size w wr) (fun c _ => n - (intOf c).toNat)
    case atStart => exact ⟨0, Nat.zero_le _, rfl, fun j h => by omega, Below.refl _ _⟩
    case round =>
      obtain ⟨k, hk, rfl, hsame, hbw⟩ := hrel
      have HSAME := Nu.hid hsame
      have HBW := Nu.hid hbw
      clear hsame
      by_cases hlt : k < n
      · have hlti : (k : Int) < (n : Int) := by omega
        have hk0 : (0 : Int) ≤ (k : Int) := by omega
        have hlm : (k : Int) < (m : Int) := by have := HNM.out; omega
        obtain ⟨x, hx⟩ : ∃ x, l[k]? = some x := ⟨_, List.getElem?_eq_getElem (by have := HN.out; omega)⟩
        obtain ⟨y, hy⟩ : ∃ y, l'[k]? = some y := ⟨_, List.getElem?_eq_getElem (by have := HM.out; omega)⟩
        obtain ⟨b, o, rfl, c0⟩ := (HA.out.later hbw) k x hx
        obtain ⟨b', o', rfl, d0⟩ := (HB.out.later hbw) k y hy
        have hbl : b < wr.heap.size := block_lt_of_cell c0
        have hbl' : b' < wr.heap.size := block_lt_of_cell d0
        have HX := Nu.hid hx
        have HY := Nu.hid hy
        clear hx hy hbw
        by_cases e1 : x = y
        · have t1 : (x != y) = false := by simp [e1]
          have HXY := Nu.hid e1
          clear e1
          go_wp2_with fail
          go_quiet (fail)
          go_wp2
          go_roundw
          case rel =>
            refine ⟨k + 1, by omega, by go_num, fun j hj => ?_, below_drewN HBW.out _⟩
            by_cases hjk : j = k
            · subst hjk; rw [HX.out, HY.out, HXY.out]
            · exact HSAME.out j (by omega)
          case measure => simp [intOf]; omega
        · have t1 : (x != y) = true := by simp [e1]
          have hv : decide (l = l') = false := by
            simp only [decide_eq_false_iff_not]
            intro h
            rw [h, HY.out] at HX
            cases HX.out
            exact e1 rfl
          have HV := Nu.hid hv
          clear hv
          go_wp2_with fail
          go_quiet (fail)
          go_wp2
          go_ret
          exact ⟨by rw [HV.out]; rfl, below_drewN HBW.out _⟩
      · have hd : ¬ ((k : Int) < (n : Int)) := by omega
        have hv : decide (l = l') = true := by
          simp only [decide_eq_true_eq]
          refine List.ext_getElem? fun j => ?_
          by_cases hj : j < k
          · exact HSAME.out j hj
          · rw [List.getElem?_eq_none (by have := HN.out; omega), List.getElem?_eq_none (by have := HM.out; have := HLL.out; omega)]
        have HV := Nu.hid hv
        clear hv hbw
        go_wp2
        go_ret
        exact ⟨by rw [HV.out]; rfl, HBW.out⟩
  · have j1 : ((n : Int) != (m : Int)) = true := by simp; omega
    have hv : decide (l = l') = false := by
      simp only [decide_eq_false_iff_not]
      intro h
      rw [h] at hn
      omega
    rw [hv]
    clear hll hn hm hv
    go_enter Try.func18, Try.ntmps18
    go_wp2
    go_ret
    exact ⟨rfl, Below.refl _ _⟩

end Go.Proofs.Ytjlfdkeklilafab

/-
  A region that draws its order and whose operations only read, calls among them that only make memory: one walk serves every order.
-/
namespace Go.Proofs.Ytjlfdkeklilafab
open Go.RowKit

/-- A world in which there is w, and more. -/
structure LW (w : World) where
  val : World
  h : Below w.heap.size w val

theorem LW.any (w : World) : Nonempty (LW w) := ⟨⟨w, Below.refl _ _⟩⟩

theorem wp_region_lw {P : Program} {id : Nat} {Q : Exit → Act → World → Prop} {a : Act} {w : World} {l : List Oper} (hm : P.follows .mixedOrders = true) (hB : Region.lexB .any l.toArray = true)
    (h : wpQuiet P l.toArray (fun w' => ∃ D : LW w, w' = D.val) (fun a' => ∀ w', (∃ D : LW w, w' = D.val) → Q .normal a' w') l a) : (Code.region id l.toArray true).wp P Q a w :=
  wp_region_quiet (C := fun w' => ∃ D : LW w, w' = D.val) hm hB ⟨⟨w.drew, (Below.refl _ _).drew⟩, rfl⟩ (by simpa using h)

theorem Calls.lw {P : Program} {f : FuncId} {args : Array Value} {w : World} {D : LW w} {v : Value}
    (h : Calls P f args D.val fun e w' => e = .returned v ∧ Below D.val.heap.size D.val w') : Calls P f args D.val fun e w'' => e = .returned v ∧ ∃ D' : LW w, w'' = D'.val :=
  h.mono fun _ w' ⟨he, hb⟩ => ⟨he, ⟨w', D.h.trans (hb.mono D.h.size)⟩, rfl⟩

end Go.Proofs.Ytjlfdkeklilafab

/-
  The document's own Equal, of any lists of lists.
-/
namespace Go.Proofs.Ytjlfdkeklilafab
open Go.RowKit

set_option maxRecDepth 100000 in
set_option maxHeartbeats 4000000 in
theorem equal11_any (xo yo : Option Addr) (xc yc : Nat) (ls ms : List (List Int)) (w : World) (hx : RwsAt w xo ls) (hy : RwsAt w yo ms) (hl : ls.length ≤ 4611686018427387904) :
    Calls Try.prog 9 #[.slice xo ls.length xc, .slice yo ms.length yc] w fun e w' => e = .returned (.bool (decide (ls = ms))) ∧ Below w.heap.size w w' := by
  have HX := Nu.hid hx
  have HY := Nu.hid hy
  clear hx hy
  by_cases hll : ls.length = ms.length
  · obtain ⟨n, hn⟩ : ∃ n, n = ls.length := ⟨_, rfl⟩
    have hm : n = ms.length := hn.trans hll
    rw [← hn] at hl ⊢
    rw [← hm]
    have HN := Nu.hid hn
    have HM := Nu.hid hm
    clear hll hn hm
    go_enter Try.func9, Try.ntmps9
    go_wp2
    go_loopw [5] (fun c wr => ∃ k : Nat, k ≤ n ∧ c = .int .i64 k ∧ (∀ j, j < k → ls[j]? = ms[j]?) ∧ Below w.heap.size w wr) (fun c _ => n - (intOf c).toNat)
    case atStart => exact ⟨0, Nat.zero_le _, rfl, fun j h => by omega, Below.refl _ _⟩
    case round =>
      obtain ⟨k, hk, rfl, hsame, hbw⟩ := hrel
      have HSAME := Nu.hid hsame
      have HBW := Nu.hid hbw
      clear hsame
      by_cases hlt : k < n
      · have hlti : (k : Int) < (n : Int) := by omega
        have hk0 : (0 : Int) ≤ (k : Int) := by omega
        obtain ⟨x, hx⟩ : ∃ x, ls[k]? = some x := ⟨_, List.getElem?_eq_getElem (by have := HN.out; omega)⟩
        obtain ⟨y, hy⟩ : ∃ y, ms[k]? = some y := ⟨_, List.getElem?_eq_getElem (by have := HM.out; omega)⟩
        obtain ⟨b, o, A, C, rfl, c0, hL, hln, -⟩ := (HX.out.later hbw) k x hx
        obtain ⟨b', o', A', C', rfl, d0, hL', hln', -⟩ := (HY.out.later hbw) k y hy
        have hbl : b < wr.heap.size := block_lt_of_cell c0
        have hbl' : b' < wr.heap.size := block_lt_of_cell d0
        have HAL := Nu.hid (fun W (hW : Below wr.heap.size wr W) => alike_any A A' C C' x.length y.length x y W rfl rfl (hL.ints.later hW) (hL'.ints.later hW) (by omega))
        have k0 : ∀ D : LW wr, D.val.cell? ⟨b, o + k, none⟩ = some (.slice A x.length C) := fun D => (D.h.cell (p := ⟨b, o + k, none⟩) hbl).trans c0
        have k1 : ∀ D : LW wr, D.val.cell? ⟨b', o' + k, none⟩ = some (.slice A' y.length C') := fun D => (D.h.cell (p := ⟨b', o' + k, none⟩) hbl').trans d0
        have hne := LW.any wr
        have HX1 := Nu.hid hx
        have HY1 := Nu.hid hy
        clear hx hy hbw c0 d0 hL hL'
        by_cases e1 : x = y
        · have HAL1 : Hid (∀ W, Below wr.heap.size wr W → Calls Try.prog 18 #[.slice A x.length C, .slice A' y.length C'] W fun e w' => e = .returned (.bool true) ∧ Below W.heap.size W w') := fun W hW => (HAL.out W hW).mono fun e w' h => ⟨by rw [h.1, decide_eq_true e1], h.2⟩
          have HXY := Nu.hid e1
          clear HAL e1
          go_wp2_with fail
          refine wp_region_lw (by kernel_rfl) (by kernel_rfl) ?_
          repeat (go_big_quiet_step ((go_at_call 18; exact Calls.lw (HAL1.out _ (by rename_i D; exact D.h)))))
          refine wpQuiet_nil ?_
          rintro _ ⟨D, rfl⟩
          have HBD := Nu.hid (HBW.out.trans (D.h.mono HBW.out.size))
          generalize D.val = W at *
          clear k0 k1
          go_wp2
          go_roundw
          case rel =>
            refine ⟨k + 1, by omega, by go_num, fun j hj => ?_, HBD.out⟩
            by_cases hjk : j = k
            · subst hjk; rw [HX1.out, HY1.out, HXY.out]
            · exact HSAME.out j (by omega)
          case measure => simp [intOf]; omega
        · have HAL1 : Hid (∀ W, Below wr.heap.size wr W → Calls Try.prog 18 #[.slice A x.length C, .slice A' y.length C'] W fun e w' => e = .returned (.bool false) ∧ Below W.heap.size W w') := fun W hW => (HAL.out W hW).mono fun e w' h => ⟨by rw [h.1, decide_eq_false e1], h.2⟩
          have hv : decide (ls = ms) = false := by
            simp only [decide_eq_false_iff_not]
            intro h
            rw [h, HY1.out] at HX1
            cases HX1.out
            exact e1 rfl
          have HV := Nu.hid hv
          clear hv HAL e1
          go_wp2_with fail
          refine wp_region_lw (by kernel_rfl) (by kernel_rfl) ?_
          repeat (go_big_quiet_step ((go_at_call 18; exact Calls.lw (HAL1.out _ (by rename_i D; exact D.h)))))
          refine wpQuiet_nil ?_
          rintro _ ⟨D, rfl⟩
          have HBD := Nu.hid (HBW.out.trans (D.h.mono HBW.out.size))
          generalize D.val = W at *
          clear k0 k1
          go_wp2
          go_ret
          exact ⟨by rw [HV.out]; rfl, HBD.out⟩
      · have hd : ¬ ((k : Int) < (n : Int)) := by omega
        have hv : decide (ls = ms) = true := by
          simp only [decide_eq_true_eq]
          refine List.ext_getElem? fun j => ?_
          by_cases hj : j < k
          · exact HSAME.out j hj
          · rw [List.getElem?_eq_none (by have := HN.out; omega), List.getElem?_eq_none (by have := HM.out; omega)]
        have HV := Nu.hid hv
        clear hv hbw
        go_wp2
        go_ret
        exact ⟨by rw [HV.out]; rfl, HBW.out⟩
  · have j1 : ((ls.length : Int) != (ms.length : Int)) = true := by simp; omega
    have hv : decide (ls = ms) = false := by
      simp only [decide_eq_false_iff_not]
      intro h
      rw [h] at hll
      omega
    rw [hv]
    clear hll hv
    go_enter Try.func9, Try.ntmps9
    go_wp2
    go_ret
    exact ⟨rfl, Below.refl _ _⟩

end Go.Proofs.Ytjlfdkeklilafab

/-
  The document's first example, as the laws ask of it.
-/
namespace Go.Proofs.Ytjlfdkeklilafab
open Go.RowKit Go.Sort

def TailPost (w : World) (e : Ending) (w' : World) : Prop := ∃ b, e = .returned (.agg #[.int .i64 4, .slice (some ⟨b, 0, none⟩) 4 4]) ∧ EdgesAt w' (some ⟨b, 0, none⟩) Ro.es4 ∧ Below w.heap.size w w'

/-- The example's edges lie at b. -/
theorem es4_at {w : World} {b : Nat} (h : w.heap[b]? = some (.cells #[.int .i64 0, .int .i64 1, .int .i64 0, .int .i64 2, .int .i64 1, .int .i64 2, .int .i64 2, .int .i64 3] 47 (0, 0))) : EdgesAt w (some ⟨b, 0, none⟩) Ro.es4 := by
  intro j p hj
  refine ⟨b, 0, rfl, ?_⟩
  match j, hj with
  | 0, hj => cases hj; exact ⟨by simp [World.cell?, h], by simp [World.cell?, h]⟩
  | 1, hj => cases hj; exact ⟨by simp [World.cell?, h], by simp [World.cell?, h]⟩
  | 2, hj => cases hj; exact ⟨by simp [World.cell?, h], by simp [World.cell?, h]⟩
  | 3, hj => cases hj; exact ⟨by simp [World.cell?, h], by simp [World.cell?, h]⟩

set_option maxRecDepth 100000 in
set_option maxHeartbeats 4000000 in
theorem tail_any (w : World) : Calls Try.prog 19 #[] w (TailPost w) := by
  go_enter Try.func19, Try.ntmps19
  go_wp2
  refine bodyPost_ret (v := .agg #[.int .i64 4, .slice (some ⟨w.heap.size + 1, 0, none⟩) 4 4]) (by simp [results, Try.results19, go_sem]) rfl ?_
  refine ⟨w.heap.size + 1, rfl, es4_at ?_, ((Below.refl _ _).alloc (Nat.le_refl _) _).alloc (by simp) _⟩
  exact alloc_at (by simp)

/-- Four lists in blocks of their own, told in block g. -/
theorem rws_four {w : World} {g g0 g1 g2 g3 n0 n1 n2 n3 : Nat} {l0 l1 l2 l3 : List Int} (h : w.heap[g]? = some (.cells #[.slice (some ⟨g0, 0, none⟩) n0 n0, .slice (some ⟨g1, 0, none⟩) n1 n1, .slice (some ⟨g2, 0, none⟩) n2 n2, .slice (some ⟨g3, 0, none⟩) n3 n3] 39 (0, 0)))
    (h0 : IntsBlk w g0 l0) (h1 : IntsBlk w g1 l1) (h2 : IntsBlk w g2 l2) (h3 : IntsBlk w g3 l3) (e0 : l0.length = n0) (e1 : l1.length = n1) (e2 : l2.length = n2) (e3 : l3.length = n3) (b0 : n0 ≤ 100) (b1 : n1 ≤ 100) (b2 : n2 ≤ 100) (b3 : n3 ≤ 100) :
    RwsAt w (some ⟨g, 0, none⟩) [l0, l1, l2, l3] := by
  obtain ⟨c0, c1, c2, c3, -⟩ := four_cells h
  subst e0
  subst e1
  subst e2
  subst e3
  intro v l hl
  match v, hl with
  | 0, hl => cases hl; exact ⟨g, 0, _, _, rfl, c0, h0.lst rfl, by omega, Nat.le_refl _, by omega⟩
  | 1, hl => cases hl; exact ⟨g, 0, _, _, rfl, c1, h1.lst rfl, by omega, Nat.le_refl _, by omega⟩
  | 2, hl => cases hl; exact ⟨g, 0, _, _, rfl, c2, h2.lst rfl, by omega, Nat.le_refl _, by omega⟩
  | 3, hl => cases hl; exact ⟨g, 0, _, _, rfl, c3, h3.lst rfl, by omega, Nat.le_refl _, by omega⟩

/-- A literal of ints in memory that was laid one block after the other. -/
theorem lit_ints {w : World} {k : Nat} {l : List Int} (h : w.heap[k]? = some (.cells (l.map (Value.int .i64)).toArray 3 (0, 0))) : IntsBlk w k l := h

theorem ck4_any (b : Nat) (xo : Option Addr) (xc : Nat) (V : World) (he : EdgesAt V (some ⟨b, 0, none⟩) Ro.es4) (hx : RwsAt V xo Ro.rot4) :
    Calls Try.prog 10 #[.agg #[.int .i64 4, .slice (some ⟨b, 0, none⟩) 4 4], .slice xo 4 xc] V fun e w' => e = .returned (.tuple #[.int .i64 0, .int .i64 0]) ∧ Below V.heap.size V w' :=
  (rcheck_any 4 (some ⟨b, 0, none⟩) 4 Ro.es4 xo xc Ro.rot4 V he (by decide) hx).mono (by
    rintro e w' ⟨h1, h2⟩
    rw [Ro.check4] at h1
    exact ⟨h1, h2⟩)
theorem ckB4_any (b : Nat) (xo : Option Addr) (xc : Nat) (V : World) (he : EdgesAt V (some ⟨b, 0, none⟩) Ro.es4) (hx : RwsAt V xo Ro.bad4) :
    Calls Try.prog 10 #[.agg #[.int .i64 4, .slice (some ⟨b, 0, none⟩) 4 4], .slice xo 4 xc] V fun e w' => e = .returned (.tuple #[.int .i64 2, .int .i64 113]) ∧ Below V.heap.size V w' :=
  (rcheck_any 4 (some ⟨b, 0, none⟩) 4 Ro.es4 xo xc Ro.bad4 V he (by decide) hx).mono (by
    rintro e w' ⟨h1, h2⟩
    rw [Ro.checkB4] at h1
    exact ⟨h1, h2⟩)
def Nx4Post (V : World) (e : Ending) (w' : World) : Prop := ∃ g, e = .returned (.tuple #[.slice (some ⟨g, 0, none⟩) 8 8, .int .i64 0]) ∧ IntsBlk w' g [2, 4, 0, 5, 1, 6, 3, 7] ∧ Below V.heap.size V w'
theorem nx4_any (b : Nat) (xo : Option Addr) (xc : Nat) (V : World) (he : EdgesAt V (some ⟨b, 0, none⟩) Ro.es4) (hx : RwsAt V xo Ro.rot4) :
    Calls Try.prog 13 #[.agg #[.int .i64 4, .slice (some ⟨b, 0, none⟩) 4 4], .slice xo 4 xc] V (Nx4Post V) :=
  (rnext_any 4 (some ⟨b, 0, none⟩) 4 Ro.es4 xo xc Ro.rot4 V he (by decide) hx).mono (by
    rintro e w' ⟨hb, h⟩
    rw [Ro.check4, Ro.next4] at h
    rcases h with ⟨h, -⟩ | ⟨-, g, h1, -, h2⟩
    · exact absurd rfl h
    · exact ⟨g, h1, h2, hb⟩)
def Cn4Post (V : World) (e : Ending) (w' : World) : Prop := ∃ xo xc, e = .returned (.slice xo 4 xc) ∧ RwsAt w' xo [[0, 2], [1, 4], [3, 5, 6], [7]] ∧ Below V.heap.size V w'
theorem cn4_any (xo : Option Addr) (xc : Nat) (V : World) (hx : RwsAt V xo Ro.rot4) :
    Calls Try.prog 14 #[.slice xo 4 xc] V (Cn4Post V) :=
  (canon_any xo xc Ro.rot4 V hx (by decide)).mono (by
    rintro e w' ⟨v, vs, rfl, hr, hb⟩
    rw [Ro.canon4] at hr
    obtain ⟨yo, yc, rfl, hy, -⟩ := hr.rws (by decide)
    exact ⟨yo, yc, rfl, hy, hb⟩)

set_option maxRecDepth 100000 in
set_option maxHeartbeats 16000000 in
theorem fixed11_any (w : World) : Calls Try.prog 5 #[] w fun e w' => e = .returned (.bool true) ∧ Below w.heap.size w w' := by
  have HT := Nu.hid tail_any
  go_enter Try.func5, Try.ntmps5
  go_wp2_with (go_at_call 19; refine (HT.out _).mono ?_; refine Hid.out ?_)
  refine Nu.hid ?_
  rintro e w1 ⟨b1, rfl, he1, hb1⟩
  have hr0 : RwsAt w1 (some ⟨w.heap.size + 1 + 1 + 1 + 1, 0, none⟩) Ro.rot4 := by
    refine RwsAt.later ?_ hb1
    refine rws_four (alloc_at (by simp)) (lit_ints ?_) (lit_ints ?_) (lit_ints ?_) (lit_ints ?_) rfl rfl rfl rfl (by omega) (by omega) (by omega) (by omega)
    all_goals repeat (first | exact alloc_at (by simp) | refine (Below.heap_alloc _ _ _ (by first | (simp; done) | (simp; omega))).trans ?_)
  have hbw1 : Below w.heap.size w w1 := by
    refine Below.trans ?_ (hb1.mono (by first | (simp; done) | (simp; omega)))
    repeat (first | exact Below.refl _ _ | refine Below.alloc ?_ (by first | (simp; done) | (simp; omega)) _)
  have HR0 := Nu.hid hr0
  have HBW1 := Nu.hid hbw1
  have HC := Nu.hid (ck4_any b1 _ 4 w1 he1 hr0)
  have hs1 : w.heap.size + 1 + 1 + 1 + 1 < w1.heap.size := by
    have := hb1.size
    simp at this
    omega
  generalize w.heap.size + 1 + 1 + 1 + 1 = R at *
  clear hr0 hbw1 he1 hb1 hs1
  go_wp2_with (go_at_call 10; refine HC.out.mono ?_; rintro e w2 ⟨rfl, hb2⟩; refine Hid.out ?_)
  refine Nu.hid ?_
  have HR2 := Nu.hid (HR0.out.later hb2)
  have HBW2 := Nu.hid (HBW1.out.trans (hb2.mono HBW1.out.size))
  clear HC hb2 HR0 HBW1
  go_wp2_with (go_at_call 19; refine (HT.out _).mono ?_; refine Hid.out ?_)
  refine Nu.hid ?_
  rintro e w3 ⟨b3, rfl, he3, hb3⟩
  have HE3 := Nu.hid he3
  have HR3 := Nu.hid (HR2.out.later hb3)
  have HBW3 := Nu.hid (HBW2.out.trans (hb3.mono HBW2.out.size))
  clear he3 hb3 HR2 HBW2
  obtain ⟨W4, hW4⟩ : ∃ W, W = ((((w3.alloc (.cells #[.int .i64 0, .int .i64 2] 3)).alloc (.cells #[.int .i64 1, .int .i64 4] 3)).alloc (.cells #[.int .i64 3, .int .i64 5] 3)).alloc (.cells #[.int .i64 7] 3)).alloc (.cells #[.slice (some ⟨w3.heap.size, 0, none⟩) 2 2, .slice (some ⟨w3.heap.size + 1, 0, none⟩) 2 2, .slice (some ⟨w3.heap.size + 1 + 1, 0, none⟩) 2 2, .slice (some ⟨w3.heap.size + 1 + 1 + 1, 0, none⟩) 1 1] 39) := ⟨_, rfl⟩
  have hb4 : Below w3.heap.size w3 W4 := by
    rw [hW4]
    repeat (first | exact Below.refl _ _ | refine Below.alloc ?_ (by first | (simp; done) | (simp; omega)) _)
  have hr4 : RwsAt W4 (some ⟨w3.heap.size + 1 + 1 + 1 + 1, 0, none⟩) Ro.bad4 := by
    rw [hW4]
    refine rws_four (alloc_at (by simp)) (lit_ints ?_) (lit_ints ?_) (lit_ints ?_) (lit_ints ?_) rfl rfl rfl rfl (by omega) (by omega) (by omega) (by omega)
    all_goals repeat (first | exact alloc_at (by simp) | refine (Below.heap_alloc _ _ _ (by first | (simp; done) | (simp; omega))).trans ?_)
  have HC4 := Nu.hid (ckB4_any b3 _ 4 W4 (HE3.out.later hb4) hr4)
  have HR4 := Nu.hid (HR3.out.later hb4)
  have HBW4 := Nu.hid (HBW3.out.trans (hb4.mono HBW3.out.size))
  rw [hW4] at HC4
  have HW4 := Nu.hid hW4
  clear hb4 hr4 hW4 HR3 HBW3
  go_wp2_with (go_at_call 10; refine HC4.out.mono ?_; rintro e w5 ⟨rfl, hb5⟩; refine Hid.out ?_)
  refine Nu.hid ?_
  rw [← HW4.out] at hb5
  have HR5 := Nu.hid (HR4.out.later hb5)
  have HBW5 := Nu.hid (HBW4.out.trans (hb5.mono HBW4.out.size))
  clear hb5 HC4 HR4 HBW4 HW4 HE3
  go_wp2_with (go_at_call 19; refine (HT.out _).mono ?_; refine Hid.out ?_)
  refine Nu.hid ?_
  rintro e w6 ⟨b6, rfl, he6, hb6⟩
  have HR6 := Nu.hid (HR5.out.later hb6)
  have HBW6 := Nu.hid (HBW5.out.trans (hb6.mono HBW5.out.size))
  have HN := Nu.hid (nx4_any b6 _ 4 w6 he6 HR6.out)
  clear he6 hb6 HR5 HBW5
  go_wp2_with (go_at_call 13; refine HN.out.mono ?_; refine Hid.out ?_)
  refine Nu.hid ?_
  rintro e w7 ⟨g7, rfl, hi7, hb7⟩
  have HR7 := Nu.hid (HR6.out.later hb7)
  have HBW7 := Nu.hid (HBW6.out.trans (hb7.mono HBW6.out.size))
  have hb8 : Below w7.heap.size w7 (w7.alloc (.cells #[.int .i64 2, .int .i64 4, .int .i64 0, .int .i64 5, .int .i64 1, .int .i64 6, .int .i64 3, .int .i64 7] 3)) := (Below.refl _ _).alloc (Nat.le_refl _) _
  have HAL := Nu.hid (alike_any (some ⟨g7, 0, none⟩) (some ⟨w7.heap.size, 0, none⟩) 8 8 8 8 [2, 4, 0, 5, 1, 6, 3, 7] [2, 4, 0, 5, 1, 6, 3, 7] (w7.alloc (.cells #[.int .i64 2, .int .i64 4, .int .i64 0, .int .i64 5, .int .i64 1, .int .i64 6, .int .i64 3, .int .i64 7] 3)) rfl rfl (hi7.at.later hb8) (IntsBlk.at (lit_ints (heap_alloc_new _ _))) (by decide))
  rw [decide_eq_true rfl] at HAL
  have HB8 := Nu.hid hb8
  clear HN HR6 HBW6 hb7 hi7 hb8
  go_wp2_with (go_at_call 18; refine HAL.out.mono ?_; rintro e w8 ⟨rfl, hb8⟩; refine Hid.out ?_)
  refine Nu.hid ?_
  have hb8' := HB8.out.trans (hb8.mono HB8.out.size)
  have HR8 := Nu.hid (HR7.out.later hb8')
  have HBW8 := Nu.hid (HBW7.out.trans (hb8'.mono HBW7.out.size))
  have HCN := Nu.hid (cn4_any _ 4 w8 HR8.out)
  clear hb8 hb8' HAL HB8 HR7 HBW7
  go_wp2_with (go_at_call 14; refine HCN.out.mono ?_; refine Hid.out ?_)
  refine Nu.hid ?_
  rintro e w9 ⟨yo, yc, rfl, hy9, hb9⟩
  have HBW9 := Nu.hid (HBW8.out.trans (hb9.mono HBW8.out.size))
  obtain ⟨W10, hW10⟩ : ∃ W, W = ((((w9.alloc (.cells #[.int .i64 0, .int .i64 2] 3)).alloc (.cells #[.int .i64 1, .int .i64 4] 3)).alloc (.cells #[.int .i64 3, .int .i64 5, .int .i64 6] 3)).alloc (.cells #[.int .i64 7] 3)).alloc (.cells #[.slice (some ⟨w9.heap.size, 0, none⟩) 2 2, .slice (some ⟨w9.heap.size + 1, 0, none⟩) 2 2, .slice (some ⟨w9.heap.size + 1 + 1, 0, none⟩) 3 3, .slice (some ⟨w9.heap.size + 1 + 1 + 1, 0, none⟩) 1 1] 39) := ⟨_, rfl⟩
  have hb10 : Below w9.heap.size w9 W10 := by
    rw [hW10]
    repeat (first | exact Below.refl _ _ | refine Below.alloc ?_ (by first | (simp; done) | (simp; omega)) _)
  have hr10 : RwsAt W10 (some ⟨w9.heap.size + 1 + 1 + 1 + 1, 0, none⟩) [[0, 2], [1, 4], [3, 5, 6], [7]] := by
    rw [hW10]
    refine rws_four (alloc_at (by simp)) (lit_ints ?_) (lit_ints ?_) (lit_ints ?_) (lit_ints ?_) rfl rfl rfl rfl (by omega) (by omega) (by omega) (by omega)
    all_goals repeat (first | exact alloc_at (by simp) | refine (Below.heap_alloc _ _ _ (by first | (simp; done) | (simp; omega))).trans ?_)
  have HEQ := Nu.hid (equal11_any yo (some ⟨w9.heap.size + 1 + 1 + 1 + 1, 0, none⟩) yc 4 [[0, 2], [1, 4], [3, 5, 6], [7]] [[0, 2], [1, 4], [3, 5, 6], [7]] W10 (hy9.later hb10) hr10 (by decide))
  rw [decide_eq_true rfl, hW10] at HEQ
  have HW10 := Nu.hid hW10
  have HBW10 := Nu.hid (HBW9.out.trans (hb10.mono HBW9.out.size))
  clear hb9 hb10 hr10 hy9 hW10 HCN HR8 HBW8 HBW9
  go_wp2_with (go_at_call 9; refine HEQ.out.mono ?_; rintro e w11 ⟨rfl, hb11⟩; refine Hid.out ?_)
  refine Nu.hid ?_
  rw [← HW10.out] at hb11
  have HBW11 := Nu.hid (HBW10.out.trans (hb11.mono HBW10.out.size))
  clear hb11 HEQ HW10 HBW10
  go_wp2
  go_ret
  exact ⟨rfl, HBW11.out⟩

end Go.Proofs.Ytjlfdkeklilafab
