/-
  What the scanner's pass does: it goes to the first byte of another kind.
-/
import Derived.Test.YtmgjfakdjponoabDoorSmall
import Derived.Test.YtmgjfakdjponoabDoorWorld
import Derived.Deep.QuietTactic
import Derived.BigQuiet
import Derived.Outline
namespace Go.Proofs.YtmgjfakdjponoabDoor
open Go.RowKit

set_option maxHeartbeats 1000000 in
theorem pass_digit (b : Nat) (ao : Option Addr) (n cap p : Nat) (g : Nat → Int) (w : World) (hs : Scn w b ao n cap p) (ht : HasText w ao n g) (ha : Apart ao b) (hp : p ≤ n) (hn : n ≤ 33554432) :
    Calls Tryd.prog 83 #[.pointer (some ⟨b, 0, none⟩), .func (.func 85) #[] #[]] w fun e w' =>
      e = .returned (.tuple #[]) ∧ ∃ q, Nu.IsSkip Nu.isDigit g n p q ∧ Scn w' b ao n cap q ∧ w.grownBy w' (some b) := by
  go_enter Tryd.func83, Tryd.ntmps83
  go_wp2
  go_loopw [] (fun wr => ∃ q : Nat, p ≤ q ∧ q ≤ n ∧ (∀ i, p ≤ i → i < q → Nu.isDigit (g i) = true) ∧ Scn wr b ao n cap q ∧ w.grownBy wr (some b)) (fun wr => n - posOf wr b)
  case atStart => exact ⟨p, Nat.le_refl _, hp, fun i h1 h2 => by omega, hs, World.grownBy.refl _ _⟩
  case round =>
    obtain ⟨q, hq0, hq1, hall, hsr, hgr⟩ := hrel
    have c0 := hsr.text
    have c1 := hsr.place
    have fz := hsr.free 1
    have HP : Hid (posOf wr b = q) := hsr.pos
    by_cases hlt : q < n
    · obtain ⟨⟨b0, b1⟩, tb, to, rfl, hcr⟩ := (ht.grown hgr ha) q hlt
      have hlti : (q : Int) < (n : Int) := by omega
      have hq0' : (0 : Int) ≤ (q : Int) := by omega
      have ht' := Nu.hid ht
      have hall' := Nu.hid hall
      clear ht hall
      cases hd : Nu.isDigit (g q)
      · go_wp2_with fail
        go_quiet ((go_at_call 85; exact Calls.quiet_of_same (digit_any _ _)))
        go_wp2
        go_end0
        exact ⟨rfl, q, ⟨hq0, hq1, hall'.out, fun _ => hd⟩, hsr.drewN _, grownBy_drewN hgr _⟩
      · go_wp2_with fail
        go_quiet ((go_at_call 85; exact Calls.quiet_of_same (digit_any _ _)))
        go_wp2
        go_roundw
        case rel =>
          refine ⟨q + 1, by omega, by omega, fun i h1 h2 => ?_, ?_, ?_⟩
          · by_cases e : i = q
            · subst e; exact hd
            · exact hall'.out i h1 (by omega)
          · exact (hsr.drewN _).set (q + 1)
          · exact grownBy_setCell (grownBy_drewN hgr _) 1 _
        case measure =>
          have e1 : posOf ((wr.drewN nq).setCell ⟨b, 1, none⟩ (.int .i64 ((q : Int) + 1))) b = q + 1 := ((hsr.drewN nq).set (q + 1)).pos
          have e2 : posOf wr b = q := HP.out
          rw [e1, e2]
          omega
    · have hd : decide ((q : Int) < (n : Int)) = false := by simp; omega
      have hqn : q = n := by omega
      have HQ := Nu.hid hqn
      clear hqn
      go_wp2_with fail
      go_quiet (fail)
      go_wp2
      go_end0
      exact ⟨rfl, q, ⟨hq0, hq1, hall, fun h => absurd h hlt⟩, hsr.drewN _, grownBy_drewN hgr _⟩

set_option maxHeartbeats 1000000 in
theorem pass_blank (b : Nat) (ao : Option Addr) (n cap p : Nat) (g : Nat → Int) (w : World) (hs : Scn w b ao n cap p) (ht : HasText w ao n g) (ha : Apart ao b) (hp : p ≤ n) (hn : n ≤ 33554432) :
    Calls Tryd.prog 83 #[.pointer (some ⟨b, 0, none⟩), .func (.func 84) #[] #[]] w fun e w' =>
      e = .returned (.tuple #[]) ∧ ∃ q, Nu.IsSkip Nu.isBlank g n p q ∧ Scn w' b ao n cap q ∧ w.grownBy w' (some b) := by
  go_enter Tryd.func83, Tryd.ntmps83
  go_wp2
  go_loopw [] (fun wr => ∃ q : Nat, p ≤ q ∧ q ≤ n ∧ (∀ i, p ≤ i → i < q → Nu.isBlank (g i) = true) ∧ Scn wr b ao n cap q ∧ w.grownBy wr (some b)) (fun wr => n - posOf wr b)
  case atStart => exact ⟨p, Nat.le_refl _, hp, fun i h1 h2 => by omega, hs, World.grownBy.refl _ _⟩
  case round =>
    obtain ⟨q, hq0, hq1, hall, hsr, hgr⟩ := hrel
    have c0 := hsr.text
    have c1 := hsr.place
    have fz := hsr.free 1
    have HP : Hid (posOf wr b = q) := hsr.pos
    by_cases hlt : q < n
    · obtain ⟨⟨b0, b1⟩, tb, to, rfl, hcr⟩ := (ht.grown hgr ha) q hlt
      have hlti : (q : Int) < (n : Int) := by omega
      have hq0' : (0 : Int) ≤ (q : Int) := by omega
      have ht' := Nu.hid ht
      have hall' := Nu.hid hall
      clear ht hall
      cases hd : Nu.isBlank (g q)
      · go_wp2_with fail
        go_quiet ((go_at_call 84; exact Calls.quiet_of_same (blank_any _ _)))
        go_wp2
        go_end0
        exact ⟨rfl, q, ⟨hq0, hq1, hall'.out, fun _ => hd⟩, hsr.drewN _, grownBy_drewN hgr _⟩
      · go_wp2_with fail
        go_quiet ((go_at_call 84; exact Calls.quiet_of_same (blank_any _ _)))
        go_wp2
        go_roundw
        case rel =>
          refine ⟨q + 1, by omega, by omega, fun i h1 h2 => ?_, ?_, ?_⟩
          · by_cases e : i = q
            · subst e; exact hd
            · exact hall'.out i h1 (by omega)
          · exact (hsr.drewN _).set (q + 1)
          · exact grownBy_setCell (grownBy_drewN hgr _) 1 _
        case measure =>
          have e1 : posOf ((wr.drewN nq).setCell ⟨b, 1, none⟩ (.int .i64 ((q : Int) + 1))) b = q + 1 := ((hsr.drewN nq).set (q + 1)).pos
          have e2 : posOf wr b = q := HP.out
          rw [e1, e2]
          omega
    · have hd : decide ((q : Int) < (n : Int)) = false := by simp; omega
      have hqn : q = n := by omega
      have HQ := Nu.hid hqn
      clear hqn
      go_wp2_with fail
      go_quiet (fail)
      go_wp2
      go_end0
      exact ⟨rfl, q, ⟨hq0, hq1, hall, fun h => absurd h hlt⟩, hsr.drewN _, grownBy_drewN hgr _⟩

end Go.Proofs.YtmgjfakdjponoabDoor
