import Derived.Test.YtfjgmbimapkabaaDoorMg08
import Derived.Deep.RegionHeld3
import Derived.Deep.CutBlock
/-
  The program's reader: the number that stands here.
-/
namespace Go.Proofs.YtfjgmbimapkabaaDoor
open Go.RowKit

/-- What stands at q of a text is what stands ahead of its end. -/
theorem HasText.cutF {w : World} {tb tq n : Nat} {g : Nat → Int} (h : HasText w (some ⟨tb, tq, none⟩) n g) {q r : Nat} (hr : r ≤ n) (_hq : q ≤ r) : HasText w (some ⟨tb, tq + q, none⟩) (r - q) (fun i => Ce.atF n g (q + i)) := by
  intro i hi
  obtain ⟨hb, tb', tq', e, hc⟩ := h (q + i) (by omega)
  simp only [Option.some.injEq, Addr.mk.injEq] at e
  obtain ⟨rfl, rfl, _⟩ := e
  have e : Ce.atF n g (q + i) = g (q + i) := if_pos (by omega)
  dsimp only
  refine ⟨by rw [e]; exact hb, tb, tq + q, rfl, ?_⟩
  rw [e, Nat.add_assoc]
  exact hc

/-- A run of digits that is a number, by Scan. -/
theorem scan17_yes {V : World} {ao : Option Addr} {m cap : Nat} {h : Nat → Int} (ht : HasText V ao m h) (ha : ∀ x, ao = some x → x.block < V.heap.size) (hm : m ≤ 33554432) (hc : m ≤ cap) {a v x y z : Int} (hsc : Nu.scan h m = .ok [⟨1, a, x, v⟩, ⟨3, y, z, 0⟩]) :
    Calls Tryd.prog 51 #[.slice ao m cap] V fun e w' => Below V.heap.size V w' ∧ ∃ T, e = .returned (.tuple #[.slice (some ⟨T, 0, none⟩) 2 2, .int .i64 0, .int .i64 0]) ∧ w'.cell? ⟨T, 0, none⟩ = some (.int .i64 1) ∧ w'.cell? ⟨T, 3, none⟩ = some (.int .i64 v) := by
  refine (scan_any ao m cap h V ht ha (by unfold maxLen; omega) hc).mono ?_
  rintro e w' ⟨hb, h1 | h1 | h1⟩
  · omega
  · obtain ⟨-, x, hx, -⟩ := h1
    rw [hsc] at hx
    cases hx
  · obtain ⟨-, ts, T, hts, rfl, -, hrow⟩ := h1
    rw [hsc] at hts
    cases hts
    obtain ⟨arr, har, -, hcs⟩ := hrow
    obtain ⟨k0, -, -, k3⟩ := hcs 0 _ rfl
    refine ⟨hb, T, rfl, ?_, ?_⟩
    · rw [cell_of_row w' T 0 arr _ _ har]
      exact k0
    · rw [cell_of_row w' T 3 arr _ _ har]
      exact k3
/-- No digits at all. -/
theorem scan17_end {V : World} {ao : Option Addr} {m cap : Nat} {h : Nat → Int} (ht : HasText V ao m h) (ha : ∀ x, ao = some x → x.block < V.heap.size) (hm : m ≤ 33554432) (hc : m ≤ cap) (hsc : Nu.scan h m = .ok [⟨3, 0, 0, 0⟩]) :
    Calls Tryd.prog 51 #[.slice ao m cap] V fun e w' => Below V.heap.size V w' ∧ ∃ T, e = .returned (.tuple #[.slice (some ⟨T, 0, none⟩) 1 1, .int .i64 0, .int .i64 0]) ∧ w'.cell? ⟨T, 0, none⟩ = some (.int .i64 3) := by
  refine (scan_any ao m cap h V ht ha (by unfold maxLen; omega) hc).mono ?_
  rintro e w' ⟨hb, h1 | h1 | h1⟩
  · omega
  · obtain ⟨-, x, hx, -⟩ := h1
    rw [hsc] at hx
    cases hx
  · obtain ⟨-, ts, T, hts, rfl, -, hrow⟩ := h1
    rw [hsc] at hts
    cases hts
    obtain ⟨arr, har, -, hcs⟩ := hrow
    obtain ⟨k0, -, -, -⟩ := hcs 0 _ rfl
    refine ⟨hb, T, rfl, ?_⟩
    rw [cell_of_row w' T 0 arr _ _ har]
    exact k0
/-- Too many, or a nought ahead. -/
theorem scan17_no {V : World} {ao : Option Addr} {m cap : Nat} {h : Nat → Int} (ht : HasText V ao m h) (ha : ∀ x, ao = some x → x.block < V.heap.size) (hm : m ≤ 33554432) (hc : m ≤ cap) {x : Nat × Int} (hsc : Nu.scan h m = .error x) :
    Calls Tryd.prog 51 #[.slice ao m cap] V fun e w' => Below V.heap.size V w' ∧ e = .returned (.tuple #[.slice none 0 0, .int .i64 x.1, .int .i64 x.2]) := by
  refine (scan_any ao m cap h V ht ha (by unfold maxLen; omega) hc).mono ?_
  rintro e w' ⟨hb, h1 | h1 | h1⟩
  · omega
  · obtain ⟨-, x, hx, rfl⟩ := h1
    rw [hsc] at hx
    cases hx
    exact ⟨hb, rfl⟩
  · obtain ⟨-, ts, T, hts, -⟩ := h1
    rw [hsc] at hts
    cases hts

theorem scan_nil {B : Nat → Int} : Nu.scan B 0 = .ok [⟨3, 0, 0, 0⟩] := by
  unfold Nu.scan
  exact Nu.scanF_last 0 (Nu.next_end (Nu.IsSkip.here (Nat.le_refl _) (fun h => absurd h (Nat.lt_irrefl _)))) rfl

/-- What number answers: the one that stands there, or a fault. -/
def NumP (R : Option (Int × Nat)) (least : Int) (b : Nat) (ao : Option Addr) (n cap p : Nat) (w : World) (e : Ending) (w' : World) : Prop :=
  w.grownBy w' (some b) ∧ ((∃ v k, R = some (v, k) ∧ least ≤ v ∧ e = .returned (.int .i64 v) ∧ Rdr w' b ao n cap k) ∨ ((∀ v k, R = some (v, k) → v < least) ∧ e = faultAt p))

set_option maxHeartbeats 4000000 in
set_option maxRecDepth 100000 in
theorem number17_any {b : Nat} {ao : Option Addr} {n cap p : Nat} {g : Nat → Int} {w : World} (hs : Rdr w b ao n cap p) (ht : HasText w ao n g) (ha : ∀ x, ao = some x → x.block < b ∧ x.spot = none) (hn : n ≤ 33554432) (hcap : n ≤ cap) (hp : p ≤ n) (least : Int) :
    Calls Tryd.prog 47 #[.pointer (some ⟨b, 0, none⟩), .int .i64 least] w (NumP (Ce.num (Ce.atF n g) n p) least b ao n cap p w) := by
  have c1 := hs.place
  have HT := Nu.hid ht
  have HS := Nu.hid hs
  clear ht hs
  go_enter Tryd.func47, Tryd.ntmps47
  go_upto_block 0 with fail
  go_cut [] from 13 to 56 (fun wr => ∃ q : Nat, Nu.IsSkip Nu.isDigit (Ce.atF n g) n p q ∧ Rdr wr b ao n cap q ∧ w.grownBy wr (some b))
  case first =>
    go_wp2
    go_loopw [] (fun wr => ∃ q : Nat, p ≤ q ∧ q ≤ n ∧ (∀ i, p ≤ i → i < q → Nu.isDigit (Ce.atF n g i) = true) ∧ Rdr wr b ao n cap q ∧ w.grownBy wr (some b)) (fun wr => n - posOf wr b)
    case atStart => exact ⟨p, Nat.le_refl _, hp, fun i h1 h2 => by omega, HS.out, World.grownBy.refl _ _⟩
    case round =>
      obtain ⟨q, hq0, hq1, hall, hsr, hgr⟩ := hrel
      clear c1
      have c0 := hsr.text
      have c1 := hsr.place
      have fz := hsr.free 1
      have HP : Hid (posOf wr b = q) := hsr.pos
      have HSR := Nu.hid hsr
      have HGR := Nu.hid hgr
      have HALL := Nu.hid hall
      have htr := HT.out.grown hgr (fun x hx => by have := (ha x hx).1; omega)
      have q0 : (0 : Int) ≤ (q : Int) := by omega
      clear hsr hgr hall
      by_cases hd : Nu.isDigit (Ce.atF n g q) = true
      · have hdd : 48 ≤ Ce.atF n g q ∧ Ce.atF n g q ≤ 57 := by simpa [Nu.isDigit] using hd
        have hlt : q < n := Ce.atF_digit hdd.1
        have HDD : Hid (∀ i, p ≤ i → i < q + 1 → Nu.isDigit (Ce.atF n g i) = true) := fun i h1 h2 => by
          by_cases e : i = q
          · rw [e]; exact hd
          · exact HALL.out i h1 (by omega)
        rw [Ce.atF, if_pos hlt] at hdd
        obtain ⟨d1, d2⟩ := hdd
        obtain ⟨⟨b0, b1⟩, tb, tq, rfl, cq⟩ := htr q hlt
        have hlti : (q : Int) < (n : Int) := by omega
        clear htr hd
        go_wp2_with fail
        go_quiet (fail)
        go_wp2
        go_roundw
        case rel => exact ⟨q + 1, by omega, by omega, HDD.out, (HSR.out.drewN _).set (q + 1), grownBy_setCell (grownBy_drewN HGR.out _) 1 _⟩
        case measure =>
          have e1 : posOf ((wr.drewN nq).setCell ⟨b, 1, none⟩ (.int .i64 ((q : Int) + 1))) b = q + 1 := ((HSR.out.drewN nq).set (q + 1)).pos
          have e2 : posOf wr b = q := HP.out
          rw [e1, e2]
          omega
      · have HSK : Hid (Nu.IsSkip Nu.isDigit (Ce.atF n g) n p q) := ⟨hq0, hq1, HALL.out, fun _ => by simpa using hd⟩
        have hex : (decide ((q : Int) < (n : Int)) = false ∧ decide (q < n) = false) ∨ ((q : Int) < (n : Int) ∧ (decide (48 ≤ g q) = false ∨ (48 ≤ g q ∧ decide (g q ≤ 57) = false)) ∧ ∃ tb tq, ao = some ⟨tb, tq, none⟩ ∧ wr.cell? ⟨tb, tq + q, none⟩ = some (.int .u8 (g q))) := by
          by_cases hlt : q < n
          · right
            have e : Ce.atF n g q = g q := if_pos hlt
            rw [e] at hd
            obtain ⟨-, tb', tq', e', cq⟩ := htr q hlt
            have : ¬ (48 ≤ g q ∧ g q ≤ 57) := by simpa [Nu.isDigit] using hd
            refine ⟨by omega, ?_, tb', tq', e', cq⟩
            rw [decide_eq_false_iff_not, decide_eq_false_iff_not]
            omega
          · left; rw [decide_eq_false_iff_not, decide_eq_false_iff_not]; omega
        clear htr hd HALL HP
        rcases hex with ⟨h1, h1'⟩ | ⟨h1, h2 | ⟨h2, h3⟩, tb, tq, rfl, cq⟩
        all_goals
          go_wp2_with fail
          go_quiet (fail)
          go_wp2
          go_meet
          exact ⟨q, HSK.out, HSR.out.drewN _, grownBy_drewN HGR.out _⟩
  case rest =>
    obtain ⟨q, hsk, hsr, hgr⟩ := hcut
    clear c1
    have c0 := hsr.text
    have c1 := hsr.place
    have hq0 := hsk.lo
    have hq1 := hsk.hi
    have htr := HT.out.grown hgr (fun x hx => by have := (ha x hx).1; omega)
    have hde : Ce.dEnd (Ce.atF n g) n p = q := hsk.eq.symm
    have hrun := Ce.scan_run (B := Ce.atF n g) hp
    rw [hde] at hrun
    have hbs := hsr.lt
    have HSR := Nu.hid hsr
    have HGR := Nu.hid hgr
    have HTR := Nu.hid htr
    clear hsr hgr
    cases ao with
    | none =>
      obtain rfl : n = 0 := by
        refine Classical.byContradiction fun h => ?_
        obtain ⟨-, _, _, e, -⟩ := htr 0 (by omega)
        cases e
      obtain rfl : q = 0 := by omega
      obtain rfl : p = 0 := by omega
      clear htr
      have hno : Ce.num (Ce.atF 0 g) 0 0 = none := by
        rcases hrun with ⟨v, k, -, -, hsc⟩ | ⟨h, -⟩
        · rw [scan_nil] at hsc
          cases hsc
        · exact h
      have HNO : Hid (∀ v k, Ce.num (Ce.atF 0 g) 0 0 = some (v, k) → v < least) := fun v k h => by rw [hno] at h; cases h
      have HSC : Hid (∀ V c, Below wc.heap.size wc V → _) := fun V c hV => scan17_end (V := V) (ao := none) (cap := c) (h := g) (fun i hi => absurd hi (Nat.not_lt_zero i)) (fun x hx => by cases hx) (by omega) (Nat.zero_le _) scan_nil
      have HKP : Hid (∀ V, Below wc.heap.size wc V → (V.cell? ⟨b, 0, none⟩ = some (.slice none 0 cap) ∧ V.cell? ⟨b, 1, none⟩ = some (.int .i64 ((0 : Nat) : Int)) ∧ Below wc.heap.size wc V)) := fun V hV => ⟨(HSR.out.later hV).text, (HSR.out.later hV).place, hV⟩
      have hbr : Below wc.heap.size wc wc.drew := (Below.refl _ _).drew
      clear hrun hno hsk hde
      go_wp2_with fail
      go_region_held3 (fun V => V.cell? ⟨b, 0, none⟩ = some (.slice none 0 cap) ∧ V.cell? ⟨b, 1, none⟩ = some (.int .i64 ((0 : Nat) : Int)) ∧ Below wc.heap.size wc V)
        (exact HKP.out _ (by first | assumption | exact hbr))
        ((go_at_call 51; with_reducible refine (HSC.out _ _ (by first | assumption | exact hbr)).mono ?_; rintro e w6 ⟨hbs6, T, rfl, t0⟩; have hbz : Below wc.heap.size wc w6 := Below.trans (by first | assumption | exact hbr) (hbs6.mono (Below.size (by first | assumption | exact hbr)))))
      have HGZ := Nu.hid (grownBy_trans HGR.out (grownBy_of_below (r := some b) hbz))
      clear hbz hbs6 HSC HKP
      go_wp2
      exact ⟨rfl, HGZ.out, .inr ⟨HNO.out, rfl⟩⟩
    | some x =>
      obtain ⟨tb, tq, sp⟩ := x
      obtain ⟨ha1, ha2⟩ := ha _ rfl
      dsimp only at ha1 ha2
      subst ha2
      have HV : Hid (∀ V, Below wc.heap.size wc V → HasText V (if cap = p then some (⟨tb, tq, none⟩ : Addr) else some ⟨tb, tq + p, none⟩) (q - p) (fun i => Ce.atF n g (p + i)) ∧ ∀ x : Addr, (if cap = p then some (⟨tb, tq, none⟩ : Addr) else some ⟨tb, tq + p, none⟩) = some x → x.block < V.heap.size) := fun V hV => by
        have hsz := hV.size
        by_cases hcp : cap = p
        · rw [if_pos hcp]
          exact ⟨fun i hi => by omega, fun x hx => by cases hx; dsimp only; omega⟩
        · rw [if_neg hcp]
          exact ⟨(HTR.out.later hV).cutF hq1 hq0, fun x hx => by cases hx; dsimp only; omega⟩
      have i1 : (p : Int) ≤ (q : Int) := by omega
      have i2 : (q : Int) ≤ (cap : Int) := by omega
      have p0 : (0 : Int) ≤ (p : Int) := by omega
      have HKP : Hid (∀ V, Below wc.heap.size wc V → (V.cell? ⟨b, 0, none⟩ = some (.slice (some ⟨tb, tq, none⟩) n cap) ∧ V.cell? ⟨b, 1, none⟩ = some (.int .i64 (q : Int)) ∧ Below wc.heap.size wc V)) := fun V hV => ⟨(HSR.out.later hV).text, (HSR.out.later hV).place, hV⟩
      have hbr : Below wc.heap.size wc wc.drew := (Below.refl _ _).drew
      clear htr hsk hde
      rcases hrun with ⟨v, k, hnum, rfl, hsc⟩ | ⟨hnum, ⟨x, hsc⟩ | ⟨rfl, hsc⟩⟩
      · have hcp : ¬ cap = p := fun e => by
          rw [show k - p = 0 by omega, scan_nil] at hsc
          cases hsc
        rw [if_neg hcp] at HV
        have HSC : Hid (∀ V, Below wc.heap.size wc V → _) := fun V hV => scan17_yes (cap := cap - p) (HV.out V hV).1 (HV.out V hV).2 (by omega) (by omega) hsc
        have HNUM := Nu.hid hnum
        clear hsc hnum HV
        go_wp2_with fail
        go_region_held3 (fun V => V.cell? ⟨b, 0, none⟩ = some (.slice (some ⟨tb, tq, none⟩) n cap) ∧ V.cell? ⟨b, 1, none⟩ = some (.int .i64 (k : Int)) ∧ Below wc.heap.size wc V)
          (exact HKP.out _ (by first | assumption | exact hbr))
          ((go_at_call 51; with_reducible refine (HSC.out _ (by first | assumption | exact hbr)).mono ?_; rintro e w6 ⟨hbs6, T, rfl, t0, t3⟩; have hbz : Below wc.heap.size wc w6 := Below.trans (by first | assumption | exact hbr) (hbs6.mono (Below.size (by first | assumption | exact hbr)))))
        have HRZ := Nu.hid (HSR.out.later hbz)
        have HGZ := Nu.hid (grownBy_trans HGR.out (grownBy_of_below (r := some b) hbz))
        clear hbz hbs6 HSC HKP
        by_cases hv : v < least
        · go_wp2
          refine ⟨rfl, HGZ.out, .inr ⟨fun v' k' h => ?_, rfl⟩⟩
          rw [HNUM.out] at h
          cases h
          exact hv
        · go_wp2
          go_ret
          exact ⟨HGZ.out, .inl ⟨v, k, HNUM.out, by omega, rfl, HRZ.out⟩⟩
      · have hcp : ¬ cap = p := fun e => by
          rw [show q - p = 0 by omega, scan_nil] at hsc
          cases hsc
        rw [if_neg hcp] at HV
        have HSC : Hid (∀ V, Below wc.heap.size wc V → _) := fun V hV => scan17_no (cap := cap - p) (HV.out V hV).1 (HV.out V hV).2 (by omega) (by omega) hsc
        have HNO : Hid (∀ v k, Ce.num (Ce.atF n g) n p = some (v, k) → v < least) := fun v k h => by rw [hnum] at h; cases h
        have hx2 := (Nu.scan_code hsc).1
        obtain ⟨x1, x2⟩ := x
        dsimp only at hx2
        clear hsc hnum HV
        rcases hx2 with rfl | rfl
        all_goals
          go_wp2_with fail
          go_region_held3 (fun V => V.cell? ⟨b, 0, none⟩ = some (.slice (some ⟨tb, tq, none⟩) n cap) ∧ V.cell? ⟨b, 1, none⟩ = some (.int .i64 (q : Int)) ∧ Below wc.heap.size wc V)
            (exact HKP.out _ (by first | assumption | exact hbr))
            ((go_at_call 51; with_reducible refine (HSC.out _ (by first | assumption | exact hbr)).mono ?_; rintro e w6 ⟨hbs6, rfl⟩; have hbz : Below wc.heap.size wc w6 := Below.trans (by first | assumption | exact hbr) (hbs6.mono (Below.size (by first | assumption | exact hbr)))))
          have HGZ := Nu.hid (grownBy_trans HGR.out (grownBy_of_below (r := some b) hbz))
          clear hbz hbs6 HSC HKP
          go_wp2
          exact ⟨rfl, HGZ.out, .inr ⟨HNO.out, rfl⟩⟩
      · have HNO : Hid (∀ v k, Ce.num (Ce.atF n g) n q = some (v, k) → v < least) := fun v k h => by rw [hnum] at h; cases h
        rw [Nat.sub_self] at HV hsc
        by_cases hcp : cap = q
        · rw [if_pos hcp] at HV
          subst hcp
          have HSC : Hid (∀ V, Below wc.heap.size wc V → _) := fun V hV => scan17_end (cap := 0) (HV.out V hV).1 (HV.out V hV).2 (by omega) (Nat.zero_le _) hsc
          clear hsc hnum HV
          go_wp2_with fail
          go_region_held3 (fun V => V.cell? ⟨b, 0, none⟩ = some (.slice (some ⟨tb, tq, none⟩) n cap) ∧ V.cell? ⟨b, 1, none⟩ = some (.int .i64 (cap : Int)) ∧ Below wc.heap.size wc V)
            (exact HKP.out _ (by first | assumption | exact hbr))
            ((go_at_call 51; with_reducible refine (HSC.out _ (by first | assumption | exact hbr)).mono ?_; rintro e w6 ⟨hbs6, T, rfl, t0⟩; have hbz : Below wc.heap.size wc w6 := Below.trans (by first | assumption | exact hbr) (hbs6.mono (Below.size (by first | assumption | exact hbr)))))
          have HGZ := Nu.hid (grownBy_trans HGR.out (grownBy_of_below (r := some b) hbz))
          clear hbz hbs6 HSC HKP
          go_wp2
          exact ⟨rfl, HGZ.out, .inr ⟨HNO.out, rfl⟩⟩
        · rw [if_neg hcp] at HV
          have HSC : Hid (∀ V, Below wc.heap.size wc V → _) := fun V hV => scan17_end (cap := cap - q) (HV.out V hV).1 (HV.out V hV).2 (by omega) (Nat.zero_le _) hsc
          clear hsc hnum HV
          go_wp2_with fail
          go_region_held3 (fun V => V.cell? ⟨b, 0, none⟩ = some (.slice (some ⟨tb, tq, none⟩) n cap) ∧ V.cell? ⟨b, 1, none⟩ = some (.int .i64 (q : Int)) ∧ Below wc.heap.size wc V)
            (exact HKP.out _ (by first | assumption | exact hbr))
            ((go_at_call 51; with_reducible refine (HSC.out _ (by first | assumption | exact hbr)).mono ?_; rintro e w6 ⟨hbs6, T, rfl, t0⟩; have hbz : Below wc.heap.size wc w6 := Below.trans (by first | assumption | exact hbr) (hbs6.mono (Below.size (by first | assumption | exact hbr)))))
          have HGZ := Nu.hid (grownBy_trans HGR.out (grownBy_of_below (r := some b) hbz))
          clear hbz hbs6 HSC HKP
          go_wp2
          exact ⟨rfl, HGZ.out, .inr ⟨HNO.out, rfl⟩⟩
end Go.Proofs.YtfjgmbimapkabaaDoor
