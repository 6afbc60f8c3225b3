/-
  Turn and Same: the document.
-/
import Derived.Test.YtloabkgojopeaaaRoTs
import Derived.Test.YtloabkgojopeaaaMg12
import Derived.Test.YtloabkgojopeaaaMg08
namespace Go.Proofs.Ytloabkgojopeaaa
open Go.RowKit

set_option maxRecDepth 100000 in
set_option maxHeartbeats 8000000 in
theorem r11turn_any (ao bo : Option Addr) (ca cb n m : Nat) (a b : List Int) (w : World) (ha : Lst w ao n ca a) (hb : Lst w bo m cb b) (hn : n ≤ 17592186043904) (hm : m ≤ 17592186043904) :
    Calls Try.prog 44 #[.slice ao n ca, .slice bo m cb] w (TnPost a b w) := by
  have HA := Nu.hid ha
  have HB := Nu.hid hb
  have HAL := Nu.hid ha.len
  have HBL := Nu.hid hb.len
  clear ha hb
  by_cases h0 : n = 0
  · subst h0
    have ha0 : a = [] := List.length_eq_zero_iff.1 HAL.out
    by_cases hm0 : m = 0
    · subst hm0
      have HT : Hid (Ro.Tn a b) := .inl ⟨ha0, List.length_eq_zero_iff.1 HBL.out⟩
      clear ha0
      go_enter Try.func44, Try.ntmps44
      go_wp2
      go_ret
      exact ⟨Below.refl _ _, .inl ⟨HT.out, rfl⟩⟩
    · have HT : Hid (¬ Ro.Tn a b) := fun h => hm0 (by have := h.len; rw [HAL.out, HBL.out] at this; omega)
      have t1 : ((m : Int) == 0) = false := beq_false_of_ne (by omega)
      have t2 : ¬ (m : Int) = 0 := by omega
      clear ha0
      go_enter Try.func44, Try.ntmps44
      go_wp2
      go_ret
      exact ⟨Below.refl _ _, .inr ⟨HT.out, by first | rfl | simp [t1, hm0]⟩⟩
  · have hn0 : ((n : Int) == 0) = false := beq_false_of_ne (by omega)
    have hn1 : ¬ (n : Int) = 0 := by omega
    go_enter Try.func44, Try.ntmps44
    go_wp2
    go_loopw [5] (fun c wr => ∃ k : Nat, k ≤ n ∧ c = .int .i64 (k : Int) ∧ (∀ j, j < k → Ro.turn a j ≠ b) ∧ Below w.heap.size w wr) (fun c _ => n - (intOf c).toNat)
    case atStart => exact ⟨0, Nat.zero_le _, rfl, fun j hj => by omega, Below.refl _ _⟩
    case round =>
      obtain ⟨k, hk, rfl, hno, hbw⟩ := hrel
      have HNO := Nu.hid hno
      have HBW := Nu.hid hbw
      clear hno hbw
      by_cases hlt : k < n
      · have hlti : (k : Int) < (n : Int) := by omega
        have HT := Nu.hid (turned_any ao ca n k a wr (HA.out.later HBW.out) hn (.inl hlt))
        go_wp2_with (go_at_call 43; refine HT.out.mono ?_; refine Hid.out ?_)
        refine Nu.hid ?_
        rintro e V1 ⟨v', rfl, ho, hb1⟩
        obtain ⟨A1, C1, rfl, hL1, -⟩ := ho.lst
        have hq1 : (Ro.turn a k).length ≤ 4611686018427387904 := by rw [Ro.turn_len, HAL.out]; omega
        generalize hql : (Ro.turn a k).length = q1 at *
        have HBV := Nu.hid (HBW.out.trans (hb1.mono HBW.out.size))
        have HAK := Nu.hid (alike_any A1 bo C1 cb q1 m (Ro.turn a k) b V1 hql HBL.out hL1.ints (HB.out.later HBV.out).ints hq1)
        clear ho hb1 hL1 hql hq1
        by_cases he : Ro.turn a k = b
        · rw [decide_eq_true he] at HAK
          have HTT : Hid (Ro.Tn a b) := .inr ⟨k, by rw [HAL.out]; exact hlt, he⟩
          clear he
          go_wp2_with (go_at_call 21; refine HAK.out.mono ?_; rintro e V2 ⟨rfl, hb2⟩; refine Hid.out ?_)
          refine Nu.hid ?_
          have HB2 := Nu.hid (HBV.out.trans (hb2.mono HBV.out.size))
          clear hb2
          go_wp2
          go_ret
          exact ⟨HB2.out, .inl ⟨HTT.out, rfl⟩⟩
        · rw [decide_eq_false he] at HAK
          have HNO2 : Hid (∀ j, j < k + 1 → Ro.turn a j ≠ b) := fun j hj => by
            by_cases e : j = k
            · subst e; exact he
            · exact HNO.out j (by omega)
          clear he
          go_wp2_with (go_at_call 21; refine HAK.out.mono ?_; rintro e V2 ⟨rfl, hb2⟩; refine Hid.out ?_)
          refine Nu.hid ?_
          have HB2 := Nu.hid (HBV.out.trans (hb2.mono HBV.out.size))
          clear hb2
          go_wp2
          go_roundw
          case rel => exact ⟨k + 1, by omega, by go_num, HNO2.out, HB2.out⟩
          case measure => simp [intOf]; omega
      · have hlti : ¬ (k : Int) < (n : Int) := by omega
        have HT : Hid (¬ Ro.Tn a b) := fun h => by
          rcases h with ⟨ha, -⟩ | ⟨j, hj, he⟩
          · rw [ha] at HAL
            exact h0 HAL.out.symm
          · exact HNO.out j (by rw [HAL.out] at hj; omega) he
        go_wp2
        go_ret
        exact ⟨HBW.out, .inr ⟨HT.out, rfl⟩⟩

set_option maxRecDepth 100000 in
set_option maxHeartbeats 4000000 in
theorem r11same_any (xo yo : Option Addr) (xc yc : Nat) (ls ms : List (List Int)) (w : World) (hx : RwsAt w xo ls) (hy : RwsAt w yo ms) (hl : ls.length ≤ 4611686018427387904) :
    Calls Try.prog 26 #[.slice xo ls.length xc, .slice yo ms.length yc] w (TnsPost ls ms w) := by
  have HX := Nu.hid hx
  have HY := Nu.hid hy
  clear hx hy
  by_cases hll : ls.length = ms.length
  · obtain ⟨n, hn⟩ : ∃ n, n = ls.length := ⟨_, rfl⟩
    have hm : n = ms.length := hn.trans hll
    rw [← hn] at hl ⊢
    rw [← hm]
    have HN := Nu.hid hn
    have HM := Nu.hid hm
    clear hll hn hm
    go_enter Try.func26, Try.ntmps26
    go_wp2
    go_loopw [5] (fun c wr => ∃ k : Nat, k ≤ n ∧ c = .int .i64 k ∧ (∀ j x y, j < k → ls[j]? = some x → ms[j]? = some y → Ro.Tn x y) ∧ Below w.heap.size w wr) (fun c _ => n - (intOf c).toNat)
    case atStart => exact ⟨0, Nat.zero_le _, rfl, fun j x y h => by omega, Below.refl _ _⟩
    case round =>
      obtain ⟨k, hk, rfl, hsame, hbw⟩ := hrel
      have HSAME := Nu.hid hsame
      have HBW := Nu.hid hbw
      clear hsame
      by_cases hlt : k < n
      · have hlti : (k : Int) < (n : Int) := by omega
        have hk0 : (0 : Int) ≤ (k : Int) := by omega
        obtain ⟨x, hx⟩ : ∃ x, ls[k]? = some x := ⟨_, List.getElem?_eq_getElem (by have := HN.out; omega)⟩
        obtain ⟨y, hy⟩ : ∃ y, ms[k]? = some y := ⟨_, List.getElem?_eq_getElem (by have := HM.out; omega)⟩
        obtain ⟨b, o, A, C, rfl, c0, hL, hln, -⟩ := (HX.out.later hbw) k x hx
        obtain ⟨b', o', A', C', rfl, d0, hL', hln', -⟩ := (HY.out.later hbw) k y hy
        have hbl : b < wr.heap.size := block_lt_of_cell c0
        have hbl' : b' < wr.heap.size := block_lt_of_cell d0
        have HAL := Nu.hid (fun W (hW : Below wr.heap.size wr W) => r11turn_any A A' C C' x.length y.length x y W (hL.later hW) (hL'.later hW) hln hln')
        have k0 : ∀ D : LW wr, D.val.cell? ⟨b, o + k, none⟩ = some (.slice A x.length C) := fun D => (D.h.cell (p := ⟨b, o + k, none⟩) hbl).trans c0
        have k1 : ∀ D : LW wr, D.val.cell? ⟨b', o' + k, none⟩ = some (.slice A' y.length C') := fun D => (D.h.cell (p := ⟨b', o' + k, none⟩) hbl').trans d0
        have hne := LW.any wr
        have HX1 := Nu.hid hx
        have HY1 := Nu.hid hy
        clear hx hy hbw c0 d0 hL hL'
        by_cases e1 : Ro.Tn x y
        · have HAL1 : Hid (∀ W, Below wr.heap.size wr W → Calls Try.prog 44 #[.slice A x.length C, .slice A' y.length C'] W fun e w' => e = .returned (.bool true) ∧ Below W.heap.size W w') := fun W hW => (HAL.out W hW).mono fun e w' h => ⟨by rcases h.2 with h | h; exact h.2; exact absurd e1 h.1, h.1⟩
          have HXY := Nu.hid e1
          clear HAL e1
          go_wp2_with fail
          refine wp_region_lw (by kernel_rfl) (by kernel_rfl) ?_
          repeat (go_big_quiet_step ((go_at_call 44; exact Calls.lw (HAL1.out _ (by rename_i D; exact D.h)))))
          refine wpQuiet_nil ?_
          rintro _ ⟨D, rfl⟩
          have HBD := Nu.hid (HBW.out.trans (D.h.mono HBW.out.size))
          generalize D.val = W at *
          clear k0 k1
          go_wp2
          go_roundw
          case rel =>
            refine ⟨k + 1, by omega, by go_num, fun j p q hj hp hq => ?_, HBD.out⟩
            by_cases hjk : j = k
            · subst hjk
              rw [HX1.out] at hp
              rw [HY1.out] at hq
              cases hp
              cases hq
              exact HXY.out
            · exact HSAME.out j p q (by omega) hp hq
          case measure => simp [intOf]; omega
        · have HAL1 : Hid (∀ W, Below wr.heap.size wr W → Calls Try.prog 44 #[.slice A x.length C, .slice A' y.length C'] W fun e w' => e = .returned (.bool false) ∧ Below W.heap.size W w') := fun W hW => (HAL.out W hW).mono fun e w' h => ⟨by rcases h.2 with h | h; exact absurd h.1 e1; exact h.2, h.1⟩
          have HV : Hid (¬ Ro.Tns ls ms) := fun h => e1 (h.2 k x y HX1.out HY1.out)
          clear HAL e1
          go_wp2_with fail
          refine wp_region_lw (by kernel_rfl) (by kernel_rfl) ?_
          repeat (go_big_quiet_step ((go_at_call 44; exact Calls.lw (HAL1.out _ (by rename_i D; exact D.h)))))
          refine wpQuiet_nil ?_
          rintro _ ⟨D, rfl⟩
          have HBD := Nu.hid (HBW.out.trans (D.h.mono HBW.out.size))
          generalize D.val = W at *
          clear k0 k1
          go_wp2
          go_ret
          exact ⟨HBD.out, .inr ⟨HV.out, rfl⟩⟩
      · have hd : ¬ ((k : Int) < (n : Int)) := by omega
        have HV : Hid (Ro.Tns ls ms) := ⟨by rw [← HN.out, ← HM.out], fun v x y h1 h2 => HSAME.out v x y (by have := (List.getElem?_eq_some_iff.1 h1).1; have := HN.out; omega) h1 h2⟩
        clear hbw
        go_wp2
        go_ret
        exact ⟨HBW.out, .inl ⟨HV.out, rfl⟩⟩
  · have j1 : ((ls.length : Int) != (ms.length : Int)) = true := by simp; omega
    have HV : Hid (¬ Ro.Tns ls ms) := fun h => hll h.1
    clear hll
    go_enter Try.func26, Try.ntmps26
    go_wp2
    go_ret
    exact ⟨Below.refl _ _, .inr ⟨HV.out, rfl⟩⟩

end Go.Proofs.Ytloabkgojopeaaa
