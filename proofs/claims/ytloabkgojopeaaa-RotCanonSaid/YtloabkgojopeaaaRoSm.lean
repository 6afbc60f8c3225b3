/-
  Same: the program.
-/
import Derived.Test.YtloabkgojopeaaaRoTn
namespace Go.Proofs.Ytloabkgojopeaaa
open Go.RowKit

set_option maxRecDepth 100000 in
set_option maxHeartbeats 4000000 in
theorem same11_any (xo yo : Option Addr) (xc yc : Nat) (ls ms : List (List Int)) (w : World) (hx : RwsAt w xo ls) (hy : RwsAt w yo ms) (hl : ls.length ≤ 4611686018427387904) :
    Calls Try.prog 14 #[.slice xo ls.length xc, .slice yo ms.length yc] w (TnsPost ls ms w) := by
  have HX := Nu.hid hx
  have HY := Nu.hid hy
  clear hx hy
  by_cases hll : ls.length = ms.length
  · obtain ⟨n, hn⟩ : ∃ n, n = ls.length := ⟨_, rfl⟩
    have hm : n = ms.length := hn.trans hll
    rw [← hn] at hl ⊢
    rw [← hm]
    have HN := Nu.hid hn
    have HM := Nu.hid hm
    clear hll hn hm
    go_enter Try.func14, Try.ntmps14
    go_wp2
    go_loopw [13] (fun c wr => ∃ k : Nat, k ≤ n ∧ c = .int .i64 k ∧ (∀ j x y, j < k → ls[j]? = some x → ms[j]? = some y → Ro.Tn x y) ∧ Below w.heap.size w wr) (fun c _ => n - (intOf c).toNat)
    case atStart => exact ⟨0, Nat.zero_le _, rfl, fun j x y h => by omega, Below.refl _ _⟩
    case round =>
      obtain ⟨k, hk, rfl, hsame, hbw⟩ := hrel
      have HSAME := Nu.hid hsame
      have HBW := Nu.hid hbw
      clear hsame
      by_cases hlt : k < n
      · have hlti : (k : Int) < (n : Int) := by omega
        have hk0 : (0 : Int) ≤ (k : Int) := by omega
        obtain ⟨x, hx⟩ : ∃ x, ls[k]? = some x := ⟨_, List.getElem?_eq_getElem (by have := HN.out; omega)⟩
        obtain ⟨y, hy⟩ : ∃ y, ms[k]? = some y := ⟨_, List.getElem?_eq_getElem (by have := HM.out; omega)⟩
        obtain ⟨b, o, A, C, rfl, c0, hL, hln, -⟩ := (HX.out.later hbw) k x hx
        obtain ⟨b', o', A', C', rfl, d0, hL', hln', -⟩ := (HY.out.later hbw) k y hy
        have hbl : b < wr.heap.size := block_lt_of_cell c0
        have hbl' : b' < wr.heap.size := block_lt_of_cell d0
        have HAL := Nu.hid (fun W (hW : Below wr.heap.size wr W) => isTurn_any A A' C C' x.length y.length x y W (hL.later hW) (hL'.later hW) hln hln')
        have k0 : ∀ D : LW wr, D.val.cell? ⟨b, o + k, none⟩ = some (.slice A x.length C) := fun D => (D.h.cell (p := ⟨b, o + k, none⟩) hbl).trans c0
        have k1 : ∀ D : LW wr, D.val.cell? ⟨b', o' + k, none⟩ = some (.slice A' y.length C') := fun D => (D.h.cell (p := ⟨b', o' + k, none⟩) hbl').trans d0
        have hne := LW.any wr
        have HX1 := Nu.hid hx
        have HY1 := Nu.hid hy
        clear hx hy hbw c0 d0 hL hL'
        by_cases e1 : Ro.Tn x y
        · have HAL1 : Hid (∀ W, Below wr.heap.size wr W → Calls Try.prog 35 #[.slice A x.length C, .slice A' y.length C'] W fun e w' => e = .returned (.bool true) ∧ Below W.heap.size W w') := fun W hW => (HAL.out W hW).mono fun e w' h => ⟨by rcases h.2 with h | h; exact h.2; exact absurd e1 h.1, h.1⟩
          have HXY := Nu.hid e1
          clear HAL e1
          go_wp2_with fail
          refine wp_region_lw (by kernel_rfl) (by kernel_rfl) ?_
          repeat (go_big_quiet_step ((go_at_call 35; exact Calls.lw (HAL1.out _ (by rename_i D; exact D.h)))))
          refine wpQuiet_nil ?_
          rintro _ ⟨D, rfl⟩
          have HBD := Nu.hid (HBW.out.trans (D.h.mono HBW.out.size))
          generalize D.val = W at *
          clear k0 k1
          go_wp2
          go_roundw
          case rel =>
            refine ⟨k + 1, by omega, by go_num, fun j p q hj hp hq => ?_, HBD.out⟩
            by_cases hjk : j = k
            · subst hjk
              rw [HX1.out] at hp
              rw [HY1.out] at hq
              cases hp
              cases hq
              exact HXY.out
            · exact HSAME.out j p q (by omega) hp hq
          case measure => simp [intOf]; omega
        · have HAL1 : Hid (∀ W, Below wr.heap.size wr W → Calls Try.prog 35 #[.slice A x.length C, .slice A' y.length C'] W fun e w' => e = .returned (.bool false) ∧ Below W.heap.size W w') := fun W hW => (HAL.out W hW).mono fun e w' h => ⟨by rcases h.2 with h | h; exact absurd h.1 e1; exact h.2, h.1⟩
          have HV : Hid (¬ Ro.Tns ls ms) := fun h => e1 (h.2 k x y HX1.out HY1.out)
          clear HAL e1
          go_wp2_with fail
          refine wp_region_lw (by kernel_rfl) (by kernel_rfl) ?_
          repeat (go_big_quiet_step ((go_at_call 35; exact Calls.lw (HAL1.out _ (by rename_i D; exact D.h)))))
          refine wpQuiet_nil ?_
          rintro _ ⟨D, rfl⟩
          have HBD := Nu.hid (HBW.out.trans (D.h.mono HBW.out.size))
          generalize D.val = W at *
          clear k0 k1
          go_wp2
          go_ret
          exact ⟨HBD.out, .inr ⟨HV.out, rfl⟩⟩
      · have hd : ¬ ((k : Int) < (n : Int)) := by omega
        have HV : Hid (Ro.Tns ls ms) := ⟨by rw [← HN.out, ← HM.out], fun v x y h1 h2 => HSAME.out v x y (by have := (List.getElem?_eq_some_iff.1 h1).1; have := HN.out; omega) h1 h2⟩
        clear hbw
        go_wp2
        go_ret
        exact ⟨HBW.out, .inl ⟨HV.out, rfl⟩⟩
  · have j1 : ((ls.length : Int) != (ms.length : Int)) = true := by simp; omega
    have HV : Hid (¬ Ro.Tns ls ms) := fun h => hll h.1
    clear hll
    go_enter Try.func14, Try.ntmps14
    go_wp2
    go_ret
    exact ⟨Below.refl _ _, .inr ⟨HV.out, rfl⟩⟩

end Go.Proofs.Ytloabkgojopeaaa
