import Derived.Test.YtodlejemkihjnaaDoorMg15
import Derived.Test.YtodlejemkihjnaaDoorMg17
import Derived.Deep.RegionHeld3
import Derived.Deep.CutBlock
import Derived.Test.YtodlejemkihjnaaDoorMg08
/-
  The program's reader: the number that stands here.
-/
namespace Go.Proofs.YtodlejemkihjnaaDoor
open Go.RowKit

/-- What stands at q of a text is what stands ahead of its end. -/
theorem HasText.cutF {w : World} {tb tq n : Nat} {g : Nat → Int} (h : HasText w (some ⟨tb, tq, none⟩) n g) {q r : Nat} (hr : r ≤ n) (_hq : q ≤ r) : HasText w (some ⟨tb, tq + q, none⟩) (r - q) (fun i => Ce.atF n g (q + i)) := by
  intro i hi
  obtain ⟨hb, tb', tq', e, hc⟩ := h (q + i) (by omega)
  simp only [Option.some.injEq, Addr.mk.injEq] at e
  obtain ⟨rfl, rfl, _⟩ := e
  have e : Ce.atF n g (q + i) = g (q + i) := if_pos (by omega)
  dsimp only
  refine ⟨by rw [e]; exact hb, tb, tq + q, rfl, ?_⟩
  rw [e, Nat.add_assoc]
  exact hc

/-- A run of digits that is a number, by Scan. -/
theorem scan17_yes {V : World} {ao : Option Addr} {m cap : Nat} {h : Nat → Int} (ht : HasText V ao m h) (ha : ∀ x, ao = some x → x.block < V.heap.size) (hm : m ≤ 33554432) (hc : m ≤ cap) {a v x y z : Int} (hsc : Nu.scan h m = .ok [⟨1, a, x, v⟩, ⟨3, y, z, 0⟩]) :
    Calls Tryd.prog 43 #[.slice ao m cap] V fun e w' => Below V.heap.size V w' ∧ ∃ T, e = .returned (.tuple #[.slice (some ⟨T, 0, none⟩) 2 2, .int .i64 0, .int .i64 0]) ∧ w'.cell? ⟨T, 0, none⟩ = some (.int .i64 1) ∧ w'.cell? ⟨T, 3, none⟩ = some (.int .i64 v) := by
  refine (scan_any ao m cap h V ht ha (by unfold maxLen; omega) hc).mono ?_
  rintro e w' ⟨hb, h1 | h1 | h1⟩
  · omega
  · obtain ⟨-, x, hx, -⟩ := h1
    rw [hsc] at hx
    cases hx
  · obtain ⟨-, ts, T, hts, rfl, -, hrow⟩ := h1
    rw [hsc] at hts
    cases hts
    obtain ⟨arr, har, -, hcs⟩ := hrow
    obtain ⟨k0, -, -, k3⟩ := hcs 0 _ rfl
    refine ⟨hb, T, rfl, ?_, ?_⟩
    · rw [cell_of_row w' T 0 arr _ _ har]
      exact k0
    · rw [cell_of_row w' T 3 arr _ _ har]
      exact k3
/-- No digits at all. -/
theorem scan17_end {V : World} {ao : Option Addr} {m cap : Nat} {h : Nat → Int} (ht : HasText V ao m h) (ha : ∀ x, ao = some x → x.block < V.heap.size) (hm : m ≤ 33554432) (hc : m ≤ cap) (hsc : Nu.scan h m = .ok [⟨3, 0, 0, 0⟩]) :
    Calls Tryd.prog 43 #[.slice ao m cap] V fun e w' => Below V.heap.size V w' ∧ ∃ T, e = .returned (.tuple #[.slice (some ⟨T, 0, none⟩) 1 1, .int .i64 0, .int .i64 0]) ∧ w'.cell? ⟨T, 0, none⟩ = some (.int .i64 3) := by
  refine (scan_any ao m cap h V ht ha (by unfold maxLen; omega) hc).mono ?_
  rintro e w' ⟨hb, h1 | h1 | h1⟩
  · omega
  · obtain ⟨-, x, hx, -⟩ := h1
    rw [hsc] at hx
    cases hx
  · obtain ⟨-, ts, T, hts, rfl, -, hrow⟩ := h1
    rw [hsc] at hts
    cases hts
    obtain ⟨arr, har, -, hcs⟩ := hrow
    obtain ⟨k0, -, -, -⟩ := hcs 0 _ rfl
    refine ⟨hb, T, rfl, ?_⟩
    rw [cell_of_row w' T 0 arr _ _ har]
    exact k0
/-- Too many, or a nought ahead. -/
theorem scan17_no {V : World} {ao : Option Addr} {m cap : Nat} {h : Nat → Int} (ht : HasText V ao m h) (ha : ∀ x, ao = some x → x.block < V.heap.size) (hm : m ≤ 33554432) (hc : m ≤ cap) {x : Nat × Int} (hsc : Nu.scan h m = .error x) :
    Calls Tryd.prog 43 #[.slice ao m cap] V fun e w' => Below V.heap.size V w' ∧ e = .returned (.tuple #[.slice none 0 0, .int .i64 x.1, .int .i64 x.2]) := by
  refine (scan_any ao m cap h V ht ha (by unfold maxLen; omega) hc).mono ?_
  rintro e w' ⟨hb, h1 | h1 | h1⟩
  · omega
  · obtain ⟨-, x, hx, rfl⟩ := h1
    rw [hsc] at hx
    cases hx
    exact ⟨hb, rfl⟩
  · obtain ⟨-, ts, T, hts, -⟩ := h1
    rw [hsc] at hts
    cases hts

theorem scan_nil {B : Nat → Int} : Nu.scan B 0 = .ok [⟨3, 0, 0, 0⟩] := by
  unfold Nu.scan
  exact Nu.scanF_last 0 (Nu.next_end (Nu.IsSkip.here (Nat.le_refl _) (fun h => absurd h (Nat.lt_irrefl _)))) rfl

/-- What number answers: the one that stands there, or a fault. -/
def NumP (R : Option (Int × Nat)) (least : Int) (b : Nat) (ao : Option Addr) (n cap p : Nat) (w : World) (e : Ending) (w' : World) : Prop :=
  w.grownBy w' (some b) ∧ ((∃ v k, R = some (v, k) ∧ least ≤ v ∧ e = .returned (.int .i64 v) ∧ Rdr w' b ao n cap k) ∨ ((∀ v k, R = some (v, k) → v < least) ∧ e = faultAt p))

set_option maxHeartbeats 4000000 in
set_option maxRecDepth 100000 in
theorem number17_any {b : Nat} {ao : Option Addr} {n cap p : Nat} {g : Nat → Int} {w : World} (hs : Rdr w b ao n cap p) (ht : HasText w ao n g) (ha : ∀ x, ao = some x → x.block < b ∧ x.spot = none) (hn : n ≤ 33554432) (hcap : n ≤ cap) (hp : p ≤ n) (least : Int) :
    Calls Tryd.prog 40 #[.pointer (some ⟨b, 0, none⟩), .int .i64 least] w (NumP (Ce.num (Ce.atF n g) n p) least b ao n cap p w) := by
  have c1 := hs.place
  have HT := Nu.hid ht
  have HS := Nu.hid hs
  clear ht hs
  go_enter Tryd.func40, Tryd.ntmps40
  go_upto_block 0 with fail
  go_cut [] from 13 to 56 (fun wr => ∃ q : Nat, Nu.IsSkip Nu.isDigit (Ce.atF n g) n p q ∧ Rdr wr b ao n cap q ∧ w.grownBy wr (some b))
  case first =>
    go_wp2
    go_loopw [] (fun wr => ∃ q : Nat, p ≤ q ∧ q ≤ n ∧ (∀ i, p ≤ i → i < q → Nu.isDigit (Ce.atF n g i) = true) ∧ Rdr wr b ao n cap q ∧ w.grownBy wr (some b)) (fun wr => n - posOf wr b)
    case atStart => exact ⟨p, Nat.le_refl _, hp, fun i h1 h2 => by omega, HS.out, World.grownBy.refl _ _⟩
    case round =>
      obtain ⟨q, hq0, hq1, hall, hsr, hgr⟩ := hrel
      clear c1
      have c0 := hsr.text
      have c1 := hsr.place
      have fz := hsr.free 1
      have HP : Hid (posOf wr b = q) := hsr.pos
      have HSR := Nu.hid hsr
      have HGR := Nu.hid hgr
      have HALL := Nu.hid hall
      have htr := HT.out.grown hgr (fun x hx => by have := (ha x hx).1; omega)
      have q0 : (0 : Int) ≤ (q : Int) := by omega
      clear hsr hgr hall
      by_cases hd : Nu.isDigit (Ce.atF n g q) = true
      · have hdd : 48 ≤ Ce.atF n g q ∧ Ce.atF n g q ≤ 57 := by simpa [Nu.isDigit] using hd
        have hlt : q < n := Ce.atF_digit hdd.1
        have HDD : Hid (∀ i, p ≤ i → i < q + 1 → Nu.isDigit (Ce.atF n g i) = true) := fun i h1 h2 => by
          by_cases e : i = q
          · rw [e]; exact hd
          · exact HALL.out i h1 (by omega)
        rw [Ce.atF, if_pos hlt] at hdd
        obtain ⟨d1, d2⟩ := hdd
        obtain ⟨⟨b0, b1⟩, tb, tq, rfl, cq⟩ := htr q hlt
        have hlti : (q : Int) < (n : Int) := by omega
        clear htr hd
        go_wp2_with fail
        go_quiet (fail)
        go_wp2
        go_roundw
        case rel => exact ⟨q + 1, by omega, by omega, HDD.out, (HSR.out.drewN _).set (q + 1), grownBy_setCell (grownBy_drewN HGR.out _) 1 _⟩
        case measure =>
          have e1 : posOf ((wr.drewN nq).setCell ⟨b, 1, none⟩ (.int .i64 ((q : Int) + 1))) b = q + 1 := ((HSR.out.drewN nq).set (q + 1)).pos
          have e2 : posOf wr b = q := HP.out
          rw [e1, e2]
          omega
      · have HSK : Hid (Nu.IsSkip Nu.isDigit (Ce.atF n g) n p q) := ⟨hq0, hq1, HALL.out, fun _ => by simpa using hd⟩
        have hex : (decide ((q : Int) < (n : Int)) = false ∧ decide (q < n) = false) ∨ ((q : Int) < (n : Int) ∧ (decide (48 ≤ g q) = false ∨ (48 ≤ g q ∧ decide (g q ≤ 57) = false)) ∧ ∃ tb tq, ao = some ⟨tb, tq, none⟩ ∧ wr.cell? ⟨tb, tq + q, none⟩ = some (.int .u8 (g q))) := by
          by_cases hlt : q < n
          · right
            have e : Ce.atF n g q = g q := if_pos hlt
            rw [e] at hd
            obtain ⟨-, tb', tq', e', cq⟩ := htr q hlt
            have : ¬ (48 ≤ g q ∧ g q ≤ 57) := by simpa [Nu.isDigit] using hd
            refine ⟨by omega, ?_, tb', tq', e', cq⟩
            rw [decide_eq_false_iff_not, decide_eq_false_iff_not]
            omega
          · left; rw [decide_eq_false_iff_not, decide_eq_false_iff_not]; omega
        clear htr hd HALL HP
        rcases hex with ⟨h1, h1'⟩ | ⟨h1, h2 | ⟨h2, h3⟩, tb, tq, rfl, cq⟩
        all_goals
          go_wp2_with fail
          go_quiet (fail)
          go_wp2
          go_meet
          exact ⟨q, HSK.out, HSR.out.drewN _, grownBy_drewN HGR.out _⟩
  case rest =>
    obtain ⟨q, hsk, hsr, hgr⟩ := hcut
    clear c1
    have c0 := hsr.text
    have c1 := hsr.place
    have hq0 := hsk.lo
    have hq1 := hsk.hi
    have htr := HT.out.grown hgr (fun x hx => by have := (ha x hx).1; omega)
    have hde : Ce.dEnd (Ce.atF n g) n p = q := hsk.eq.symm
    have hrun := Ce.scan_run (B := Ce.atF n g) hp
    rw [hde] at hrun
    have hbs := hsr.lt
    have HSR := Nu.hid hsr
    have HGR := Nu.hid hgr
    have HTR := Nu.hid htr
    clear hsr hgr
    cases ao with
    | none =>
      obtain rfl : n = 0 := by
        refine Classical.byContradiction fun h => ?_
        obtain ⟨-, _, _, e, -⟩ := htr 0 (by omega)
        cases e
      obtain rfl : q = 0 := by omega
      obtain rfl : p = 0 := by omega
      clear htr
      have hno : Ce.num (Ce.atF 0 g) 0 0 = none := by
        rcases hrun with ⟨v, k, -, -, hsc⟩ | ⟨h, -⟩
        · rw [scan_nil] at hsc
          cases hsc
        · exact h
      have HNO : Hid (∀ v k, Ce.num (Ce.atF 0 g) 0 0 = some (v, k) → v < least) := fun v k h => by rw [hno] at h; cases h
      have HSC : Hid (∀ V c, Below wc.heap.size wc V → _) := fun V c hV => scan17_end (V := V) (ao := none) (cap := c) (h := g) (fun i hi => absurd hi (Nat.not_lt_zero i)) (fun x hx => by cases hx) (by omega) (Nat.zero_le _) scan_nil
      have HKP : Hid (∀ V, Below wc.heap.size wc V → (V.cell? ⟨b, 0, none⟩ = some (.slice none 0 cap) ∧ V.cell? ⟨b, 1, none⟩ = some (.int .i64 ((0 : Nat) : Int)) ∧ Below wc.heap.size wc V)) := fun V hV => ⟨(HSR.out.later hV).text, (HSR.out.later hV).place, hV⟩
      have hbr : Below wc.heap.size wc wc.drew := (Below.refl _ _).drew
      clear hrun hno hsk hde
      go_wp2_with fail
      go_region_held3 (fun V => V.cell? ⟨b, 0, none⟩ = some (.slice none 0 cap) ∧ V.cell? ⟨b, 1, none⟩ = some (.int .i64 ((0 : Nat) : Int)) ∧ Below wc.heap.size wc V)
        (exact HKP.out _ (by first | assumption | exact hbr))
        ((go_at_call 43; with_reducible refine (HSC.out _ _ (by first | assumption | exact hbr)).mono ?_; rintro e w6 ⟨hbs6, T, rfl, t0⟩; have hbz : Below wc.heap.size wc w6 := Below.trans (by first | assumption | exact hbr) (hbs6.mono (Below.size (by first | assumption | exact hbr)))))
      have HGZ := Nu.hid (grownBy_trans HGR.out (grownBy_of_below (r := some b) hbz))
      clear hbz hbs6 HSC HKP
      go_wp2
      exact ⟨rfl, HGZ.out, .inr ⟨HNO.out, rfl⟩⟩
    | some x =>
      obtain ⟨tb, tq, sp⟩ := x
      obtain ⟨ha1, ha2⟩ := ha _ rfl
      dsimp only at ha1 ha2
      subst ha2
      have HV : Hid (∀ V, Below wc.heap.size wc V → HasText V (if cap = p then some (⟨tb, tq, none⟩ : Addr) else some ⟨tb, tq + p, none⟩) (q - p) (fun i => Ce.atF n g (p + i)) ∧ ∀ x : Addr, (if cap = p then some (⟨tb, tq, none⟩ : Addr) else some ⟨tb, tq + p, none⟩) = some x → x.block < V.heap.size) := fun V hV => by
        have hsz := hV.size
        by_cases hcp : cap = p
        · rw [if_pos hcp]
          exact ⟨fun i hi => by omega, fun x hx => by cases hx; dsimp only; omega⟩
        · rw [if_neg hcp]
          exact ⟨(HTR.out.later hV).cutF hq1 hq0, fun x hx => by cases hx; dsimp only; omega⟩
      have i1 : (p : Int) ≤ (q : Int) := by omega
      have i2 : (q : Int) ≤ (cap : Int) := by omega
      have p0 : (0 : Int) ≤ (p : Int) := by omega
      have HKP : Hid (∀ V, Below wc.heap.size wc V → (V.cell? ⟨b, 0, none⟩ = some (.slice (some ⟨tb, tq, none⟩) n cap) ∧ V.cell? ⟨b, 1, none⟩ = some (.int .i64 (q : Int)) ∧ Below wc.heap.size wc V)) := fun V hV => ⟨(HSR.out.later hV).text, (HSR.out.later hV).place, hV⟩
      have hbr : Below wc.heap.size wc wc.drew := (Below.refl _ _).drew
      clear htr hsk hde
      rcases hrun with ⟨v, k, hnum, rfl, hsc⟩ | ⟨hnum, ⟨x, hsc⟩ | ⟨rfl, hsc⟩⟩
      · have hcp : ¬ cap = p := fun e => by
          rw [show k - p = 0 by omega, scan_nil] at hsc
          cases hsc
        rw [if_neg hcp] at HV
        have HSC : Hid (∀ V, Below wc.heap.size wc V → _) := fun V hV => scan17_yes (cap := cap - p) (HV.out V hV).1 (HV.out V hV).2 (by omega) (by omega) hsc
        have HNUM := Nu.hid hnum
        clear hsc hnum HV
        go_wp2_with fail
        go_region_held3 (fun V => V.cell? ⟨b, 0, none⟩ = some (.slice (some ⟨tb, tq, none⟩) n cap) ∧ V.cell? ⟨b, 1, none⟩ = some (.int .i64 (k : Int)) ∧ Below wc.heap.size wc V)
          (exact HKP.out _ (by first | assumption | exact hbr))
          ((go_at_call 43; with_reducible refine (HSC.out _ (by first | assumption | exact hbr)).mono ?_; rintro e w6 ⟨hbs6, T, rfl, t0, t3⟩; have hbz : Below wc.heap.size wc w6 := Below.trans (by first | assumption | exact hbr) (hbs6.mono (Below.size (by first | assumption | exact hbr)))))
        have HRZ := Nu.hid (HSR.out.later hbz)
        have HGZ := Nu.hid (grownBy_trans HGR.out (grownBy_of_below (r := some b) hbz))
        clear hbz hbs6 HSC HKP
        by_cases hv : v < least
        · go_wp2
          refine ⟨rfl, HGZ.out, .inr ⟨fun v' k' h => ?_, rfl⟩⟩
          rw [HNUM.out] at h
          cases h
          exact hv
        · go_wp2
          go_ret
          exact ⟨HGZ.out, .inl ⟨v, k, HNUM.out, by omega, rfl, HRZ.out⟩⟩
      · have hcp : ¬ cap = p := fun e => by
          rw [show q - p = 0 by omega, scan_nil] at hsc
          cases hsc
        rw [if_neg hcp] at HV
        have HSC : Hid (∀ V, Below wc.heap.size wc V → _) := fun V hV => scan17_no (cap := cap - p) (HV.out V hV).1 (HV.out V hV).2 (by omega) (by omega) hsc
        have HNO : Hid (∀ v k, Ce.num (Ce.atF n g) n p = some (v, k) → v < least) := fun v k h => by rw [hnum] at h; cases h
        have hx2 := (Nu.scan_code hsc).1
        obtain ⟨x1, x2⟩ := x
        dsimp only at hx2
        clear hsc hnum HV
        rcases hx2 with rfl | rfl
        all_goals
          go_wp2_with fail
          go_region_held3 (fun V => V.cell? ⟨b, 0, none⟩ = some (.slice (some ⟨tb, tq, none⟩) n cap) ∧ V.cell? ⟨b, 1, none⟩ = some (.int .i64 (q : Int)) ∧ Below wc.heap.size wc V)
            (exact HKP.out _ (by first | assumption | exact hbr))
            ((go_at_call 43; with_reducible refine (HSC.out _ (by first | assumption | exact hbr)).mono ?_; rintro e w6 ⟨hbs6, rfl⟩; have hbz : Below wc.heap.size wc w6 := Below.trans (by first | assumption | exact hbr) (hbs6.mono (Below.size (by first | assumption | exact hbr)))))
          have HGZ := Nu.hid (grownBy_trans HGR.out (grownBy_of_below (r := some b) hbz))
          clear hbz hbs6 HSC HKP
          go_wp2
          exact ⟨rfl, HGZ.out, .inr ⟨HNO.out, rfl⟩⟩
      · have HNO : Hid (∀ v k, Ce.num (Ce.atF n g) n q = some (v, k) → v < least) := fun v k h => by rw [hnum] at h; cases h
        rw [Nat.sub_self] at HV hsc
        by_cases hcp : cap = q
        · rw [if_pos hcp] at HV
          subst hcp
          have HSC : Hid (∀ V, Below wc.heap.size wc V → _) := fun V hV => scan17_end (cap := 0) (HV.out V hV).1 (HV.out V hV).2 (by omega) (Nat.zero_le _) hsc
          clear hsc hnum HV
          go_wp2_with fail
          go_region_held3 (fun V => V.cell? ⟨b, 0, none⟩ = some (.slice (some ⟨tb, tq, none⟩) n cap) ∧ V.cell? ⟨b, 1, none⟩ = some (.int .i64 (cap : Int)) ∧ Below wc.heap.size wc V)
            (exact HKP.out _ (by first | assumption | exact hbr))
            ((go_at_call 43; with_reducible refine (HSC.out _ (by first | assumption | exact hbr)).mono ?_; rintro e w6 ⟨hbs6, T, rfl, t0⟩; have hbz : Below wc.heap.size wc w6 := Below.trans (by first | assumption | exact hbr) (hbs6.mono (Below.size (by first | assumption | exact hbr)))))
          have HGZ := Nu.hid (grownBy_trans HGR.out (grownBy_of_below (r := some b) hbz))
          clear hbz hbs6 HSC HKP
          go_wp2
          exact ⟨rfl, HGZ.out, .inr ⟨HNO.out, rfl⟩⟩
        · rw [if_neg hcp] at HV
          have HSC : Hid (∀ V, Below wc.heap.size wc V → _) := fun V hV => scan17_end (cap := cap - q) (HV.out V hV).1 (HV.out V hV).2 (by omega) (Nat.zero_le _) hsc
          clear hsc hnum HV
          go_wp2_with fail
          go_region_held3 (fun V => V.cell? ⟨b, 0, none⟩ = some (.slice (some ⟨tb, tq, none⟩) n cap) ∧ V.cell? ⟨b, 1, none⟩ = some (.int .i64 (q : Int)) ∧ Below wc.heap.size wc V)
            (exact HKP.out _ (by first | assumption | exact hbr))
            ((go_at_call 43; with_reducible refine (HSC.out _ (by first | assumption | exact hbr)).mono ?_; rintro e w6 ⟨hbs6, T, rfl, t0⟩; have hbz : Below wc.heap.size wc w6 := Below.trans (by first | assumption | exact hbr) (hbs6.mono (Below.size (by first | assumption | exact hbr)))))
          have HGZ := Nu.hid (grownBy_trans HGR.out (grownBy_of_below (r := some b) hbz))
          clear hbz hbs6 HSC HKP
          go_wp2
          exact ⟨rfl, HGZ.out, .inr ⟨HNO.out, rfl⟩⟩
end Go.Proofs.YtodlejemkihjnaaDoor

/-
  The program's reader: the head's number; a line of numbers.
-/
namespace Go.Proofs.YtodlejemkihjnaaDoor
open Go.RowKit

/-- What is read, or the fault. -/
def RdP {α : Type} (R : Except Nat (α × Nat)) (val : α → World → Value → Prop) (b : Nat) (ao : Option Addr) (n cap : Nat) (w : World) (e : Ending) (w' : World) : Prop :=
  w.grownBy w' (some b) ∧ ((∃ a k v, R = .ok (a, k) ∧ e = .returned v ∧ val a w' v ∧ Rdr w' b ao n cap k ∧ k ≤ n) ∨ ∃ p : Nat, R = .error p ∧ e = faultAt p)
/-- The text of a reader. -/
structure Rtx (w : World) (b : Nat) (ao : Option Addr) (n cap p : Nat) (g : Nat → Int) : Prop where
  rdr : Rdr w b ao n cap p
  txt : HasText w ao n g
  adr : ∀ x, ao = some x → x.block < b ∧ x.spot = none
  len : n ≤ 33554432
  fit : n ≤ cap
  pos : p ≤ n
theorem Rtx.next {w w' : World} {b : Nat} {ao : Option Addr} {n cap p q : Nat} {g : Nat → Int} (h : Rtx w b ao n cap p g) (hg : w.grownBy w' (some b)) (hr : Rdr w' b ao n cap q) (hq : q ≤ n) : Rtx w' b ao n cap q g :=
  ⟨hr, h.txt.grown hg (fun x hx => by have := (h.adr x hx).1; omega), h.adr, h.len, h.fit, hq⟩
theorem Rtx.later {w w' : World} {b : Nat} {ao : Option Addr} {n cap p : Nat} {g : Nat → Int} (h : Rtx w b ao n cap p g) (hb : Below w.heap.size w w') : Rtx w' b ao n cap p g :=
  ⟨h.rdr.later hb, h.txt.later hb, h.adr, h.len, h.fit, h.pos⟩
theorem Rtx.yes {w : World} {b : Nat} {ao : Option Addr} {n cap p : Nat} {g : Nat → Int} (h : Rtx w b ao n cap p g) {c : Int} (h0 : 0 ≤ c) (hc : Ce.atF n g p = c) :
    Calls Tryd.prog 31 #[.pointer (some ⟨b, 0, none⟩), .int .u8 c] w fun e w' => e = .returned (.tuple #[]) ∧ w.grownBy w' (some b) ∧ Rtx w' b ao n cap (p + 1) g :=
  (want17_yes h.rdr h.txt h.len h.pos h0 hc).mono fun _ _ ⟨he, hr, hg, hlt⟩ => ⟨he, hg, h.next hg hr hlt⟩
theorem Rtx.no {w : World} {b : Nat} {ao : Option Addr} {n cap p : Nat} {g : Nat → Int} (h : Rtx w b ao n cap p g) {c : Int} (hc : Ce.atF n g p ≠ c) :
    Calls Tryd.prog 31 #[.pointer (some ⟨b, 0, none⟩), .int .u8 c] w fun e w' => e = faultAt p ∧ w.grownBy w' (some b) := want17_no h.rdr h.txt h.len h.pos hc
theorem Rtx.passYes {w : World} {b : Nat} {ao : Option Addr} {n cap p : Nat} {g : Nat → Int} (h : Rtx w b ao n cap p g) {c : Int} (h0 : 0 ≤ c) (hc : Ce.atF n g p = c) :
    Calls Tryd.prog 29 #[.pointer (some ⟨b, 0, none⟩), .int .u8 c] w fun e w' => e = .returned (.bool true) ∧ w.grownBy w' (some b) ∧ Rtx w' b ao n cap (p + 1) g :=
  (passes17_yes h.rdr h.txt h.len h.pos h0 hc).mono fun _ _ ⟨he, hr, hg, hlt⟩ => ⟨he, hg, h.next hg hr hlt⟩
theorem Rtx.passNo {w : World} {b : Nat} {ao : Option Addr} {n cap p : Nat} {g : Nat → Int} (h : Rtx w b ao n cap p g) {c : Int} (hc : Ce.atF n g p ≠ c) :
    Calls Tryd.prog 29 #[.pointer (some ⟨b, 0, none⟩), .int .u8 c] w fun e w' => e = .returned (.bool false) ∧ w.grownBy w' (some b) ∧ Rtx w' b ao n cap p g :=
  (passes17_no h.rdr h.txt h.len h.pos hc).mono fun _ _ ⟨he, hr, hg⟩ => ⟨he, hg, h.next hg hr h.pos⟩
theorem Rtx.num {w : World} {b : Nat} {ao : Option Addr} {n cap p : Nat} {g : Nat → Int} (h : Rtx w b ao n cap p g) (least : Int) :
    Calls Tryd.prog 40 #[.pointer (some ⟨b, 0, none⟩), .int .i64 least] w fun e w' => w.grownBy w' (some b) ∧ ((∃ v k, Ce.num (Ce.atF n g) n p = some (v, k) ∧ least ≤ v ∧ e = .returned (.int .i64 v) ∧ Rtx w' b ao n cap k g ∧ Ce.okN v ∧ p < k) ∨ ((∀ v k, Ce.num (Ce.atF n g) n p = some (v, k) → v < least) ∧ e = faultAt p)) :=
  (number17_any h.rdr h.txt h.adr h.len h.fit h.pos least).mono fun _ _ ⟨hg, hx⟩ => ⟨hg, by
    rcases hx with ⟨v, k, h1, h2, h3, h4⟩ | hx
    · obtain ⟨m1, m2, m3, m4⟩ := Ce.num_is h.pos h1
      have := Ce.dg_some v
      exact .inl ⟨v, k, h1, h2, h3, h.next hg h4 m4, m1, by omega⟩
    · exact .inr hx⟩

theorem Rtx.numYes {w : World} {b : Nat} {ao : Option Addr} {n cap p : Nat} {g : Nat → Int} (h : Rtx w b ao n cap p g) {least v : Int} {k : Nat} (hm : Ce.num (Ce.atF n g) n p = some (v, k)) (hl : least ≤ v) :
    Calls Tryd.prog 40 #[.pointer (some ⟨b, 0, none⟩), .int .i64 least] w fun e w' => e = .returned (.int .i64 v) ∧ w.grownBy w' (some b) ∧ Rtx w' b ao n cap k g :=
  (h.num least).mono fun _ _ ⟨hg, hx⟩ => by
    rcases hx with ⟨v', k', h1, h2, h3, h4, -, -⟩ | ⟨h1, -⟩
    · rw [hm] at h1
      cases h1
      exact ⟨h3, hg, h4⟩
    · have := h1 v k hm
      omega
theorem Rtx.numNo {w : World} {b : Nat} {ao : Option Addr} {n cap p : Nat} {g : Nat → Int} (h : Rtx w b ao n cap p g) {least : Int} (hm : ∀ v k, Ce.num (Ce.atF n g) n p = some (v, k) → v < least) :
    Calls Tryd.prog 40 #[.pointer (some ⟨b, 0, none⟩), .int .i64 least] w fun e w' => e = faultAt p ∧ w.grownBy w' (some b) :=
  (h.num least).mono fun _ _ ⟨hg, hx⟩ => by
    rcases hx with ⟨v', k', h1, h2, -⟩ | ⟨-, h1⟩
    · have := hm v' k' h1
      omega
    · exact ⟨h1, hg⟩
/-- The number of the head, behind its letter. -/
def Ce.cnt (B : Nat → Int) (n : Nat) (most : Int) (i : Nat) : Except Nat (Int × Nat) :=
  if B i ≠ 32 then .error i else match Ce.num B n (i + 1) with
  | none => .error (i + 1)
  | some (k, e) => if most < k then .error (i + 1) else if B e ≠ 10 then .error e else .ok (k, e + 1)

set_option maxHeartbeats 2000000 in
theorem count17_any {b : Nat} {ao : Option Addr} {n cap p : Nat} {g : Nat → Int} {w : World} (h : Rtx w b ao n cap p g) (most : Int) :
    Calls Tryd.prog 35 #[.pointer (some ⟨b, 0, none⟩), .int .i64 most] w (RdP (Ce.cnt (Ce.atF n g) n most p) (fun k _ v => v = .int .i64 k ∧ Ce.okN k) b ao n cap w) := by
  have H := Nu.hid h
  obtain ⟨R, hR⟩ : ∃ R, Ce.cnt (Ce.atF n g) n most p = R := ⟨_, rfl⟩
  rw [hR]
  unfold Ce.cnt at hR
  by_cases h1 : Ce.atF n g p = 32
  · rw [if_neg (by simpa using h1)] at hR
    have HR := Nu.hid hR
    clear hR h
    go_enter Tryd.func35, Tryd.ntmps35
    go_wp2_with (go_at_call 31; refine (H.out.yes (by decide) h1).mono ?_; refine Hid.out ?_)
    refine Nu.hid ?_
    rintro e w1 ⟨rfl, hg1, h1'⟩
    have c1 := h1'.rdr.place
    have H1 := Nu.hid h1'
    have HG1 := Nu.hid hg1
    clear h1' hg1
    go_wp2_with (go_at_call 40; refine (H1.out.num 0).mono ?_; refine Hid.out ?_)
    refine Nu.hid ?_
    rintro e w2 ⟨hg2, ⟨v, k, hnum, hv, rfl, h2, hok, -⟩ | ⟨hno, rfl⟩⟩
    · have hR := HR.out
      rw [hnum] at hR
      dsimp only at hR
      have H2 := Nu.hid h2
      have HG2 := Nu.hid (grownBy_trans HG1.out hg2)
      by_cases hm : most < v
      · rw [if_pos hm] at hR
        have HRR := Nu.hid hR
        clear hR hg2 h2 hnum
        go_wp2
        exact ⟨rfl, HG2.out, .inr ⟨p + 1, HRR.out.symm, rfl⟩⟩
      · rw [if_neg hm] at hR
        by_cases h10 : Ce.atF n g k = 10
        · rw [if_neg (by simpa using h10)] at hR
          have HRR := Nu.hid hR
          clear hR hg2 h2 hnum
          go_wp2_with (go_at_call 31; refine (H2.out.yes (by decide) h10).mono ?_; refine Hid.out ?_)
          refine Nu.hid ?_
          rintro e w3 ⟨rfl, hg3, h3⟩
          go_wp2
          go_ret
          exact ⟨grownBy_trans HG2.out hg3, .inl ⟨v, k + 1, _, HRR.out.symm, rfl, ⟨rfl, hok⟩, h3.rdr, h3.pos⟩⟩
        · rw [if_pos (by simpa using h10)] at hR
          have HRR := Nu.hid hR
          clear hR hg2 h2 hnum
          go_wp2_with (go_at_call 31; refine (H2.out.no h10).mono ?_; refine Hid.out ?_)
          refine Nu.hid ?_
          rintro e w3 ⟨rfl, hg3⟩
          exact ⟨rfl, grownBy_trans HG2.out hg3, .inr ⟨k, HRR.out.symm, rfl⟩⟩
    · have hR := HR.out
      have hm : Ce.num (Ce.atF n g) n (p + 1) = none := by
        cases hm : Ce.num (Ce.atF n g) n (p + 1) with
        | none => rfl
        | some q =>
          have h1 := hno q.1 q.2 hm
          have h2 := (Ce.num_is (H1.out.pos) hm).1.1
          omega
      rw [hm] at hR
      exact ⟨rfl, grownBy_trans HG1.out hg2, .inr ⟨p + 1, hR.symm, rfl⟩⟩
  · rw [if_pos (by simpa using h1)] at hR
    go_enter Tryd.func35, Tryd.ntmps35
    go_wp2_with (go_at_call 31; refine (H.out.no h1).mono ?_; refine Hid.out ?_)
    refine Nu.hid ?_
    rintro e w1 ⟨rfl, hg1⟩
    exact ⟨rfl, hg1, .inr ⟨p, hR.symm, rfl⟩⟩
end Go.Proofs.YtodlejemkihjnaaDoor
