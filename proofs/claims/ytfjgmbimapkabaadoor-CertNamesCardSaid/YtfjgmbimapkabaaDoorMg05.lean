import Derived.Test.YtfjgmbimapkabaaDoorMg04
import Derived.Deep.QuietTactic
import Derived.BigQuiet
/-
  The document's own at and digits.
-/
namespace Go.Proofs.YtfjgmbimapkabaaDoor
open Go.RowKit

/-- The byte at a place, -1 behind the end. -/
def Ce.atF (n : Nat) (g : Nat → Int) (i : Nat) : Int := if i < n then g i else -1
theorem HasText.txt {w : World} {ao : Option Addr} {n : Nat} {g : Nat → Int} (h : HasText w ao n g) : Ce.Txt (Ce.atF n g) n :=
  ⟨fun i hi => if_neg (by omega), fun i hi => by rw [Ce.atF, if_pos hi]; exact (h i hi).1⟩

set_option maxRecDepth 100000 in
theorem rat17_any {ao : Option Addr} {n cap : Nat} {g : Nat → Int} {w : World} (h : HasText w ao n g) (i : Nat) (_ : i ≤ 4611686018427387904) :
    Calls Tryd.prog 23 #[.slice ao n cap, .int .i64 (i : Int)] w fun e w' => e = .returned (.int .i64 (Ce.atF n g i)) ∧ w' = w := by
  have h0 : ¬ ((i : Int) < 0) := by omega
  by_cases hlt : i < n
  · obtain ⟨⟨b0, b1⟩, tb, to, rfl, hc⟩ := h i hlt
    have h1 : ¬ ((n : Int) ≤ (i : Int)) := by omega
    have h2 : (i : Int) < (n : Int) := by omega
    have h3 : (0 : Int) ≤ (i : Int) := by omega
    have e : Ce.atF n g i = g i := if_pos hlt
    rw [e]
    go_enter Tryd.func23, Tryd.ntmps23
    go_wp2
    go_ret
    exact ⟨rfl, rfl⟩
  · have h1 : (n : Int) ≤ (i : Int) := by omega
    have e : Ce.atF n g i = -1 := if_neg hlt
    rw [e]
    go_enter Tryd.func23, Tryd.ntmps23
    go_wp2
    go_ret
    exact ⟨rfl, rfl⟩

theorem Ce.atF_digit {n : Nat} {g : Nat → Int} {i : Nat} (h : 48 ≤ Ce.atF n g i) : i < n := by
  unfold Ce.atF at h
  split at h
  · assumption
  · omega

set_option maxRecDepth 100000 in
set_option maxHeartbeats 4000000 in
theorem rdig17_any {ao : Option Addr} {n cap : Nat} {g : Nat → Int} {w : World} (h : HasText w ao n g) (hn : n ≤ 1125899906842624) (i : Nat) (hi : i ≤ n) :
    Calls Tryd.prog 24 #[.slice ao n cap, .int .i64 (i : Int)] w fun e w' => e = .returned (.tuple #[.int .i64 (Nu.val (Ce.atF n g) i (min (Ce.dEnd (Ce.atF n g) n i - i) 9)), .int .i64 (Ce.dEnd (Ce.atF n g) n i : Int), .bool (decide (Ce.okNum (Ce.atF n g) n i))]) ∧ w' = w := by
  have HAT : Hid (∀ j : Nat, j ≤ n → Calls Tryd.prog 23 #[.slice ao n cap, .int .i64 (j : Int)] w fun e w' => e = .returned (.int .i64 (Ce.atF n g j)) ∧ w' = w) := fun j hj => rat17_any h j (by omega)
  obtain ⟨B, hB⟩ : ∃ B, Ce.atF n g = B := ⟨_, rfl⟩
  have HD : Hid (∀ j, 48 ≤ B j → j < n) := fun j hj => by rw [← hB] at hj; exact Ce.atF_digit hj
  rw [hB] at HAT ⊢
  have hsk := Nu.skip_is Nu.isDigit B n i hi
  have hok : Ce.okNum B n i ↔ (i < Ce.dEnd B n i ∧ Ce.dEnd B n i - i ≤ 9 ∧ (Ce.dEnd B n i - i = 1 ∨ B i ≠ 48)) := Iff.rfl
  obtain ⟨kE, hkE⟩ : ∃ kE, Ce.dEnd B n i = kE := ⟨_, rfl⟩
  rw [show Nu.skip Nu.isDigit B n i = Ce.dEnd B n i from rfl, hkE] at hsk
  rw [hkE] at hok ⊢
  obtain ⟨vE, hvE⟩ : ∃ vE, Nu.val B i (min (kE - i) 9) = vE := ⟨_, rfl⟩
  obtain ⟨ok, hok'⟩ : ∃ ok, decide (Ce.okNum B n i) = ok := ⟨_, rfl⟩
  rw [hvE, hok']
  have HSK := Nu.hid hsk
  have HVE := Nu.hid hvE
  have HOK := Nu.hid (And.intro hok' hok)
  clear h hB hsk hkE hvE hok' hok
  go_enter Tryd.func24, Tryd.ntmps24
  go_wp2
  go_loop [7, 8] (fun kv nv => ∃ k : Nat, i ≤ k ∧ k ≤ n ∧ (∀ j, i ≤ j → j < k → Nu.isDigit (B j) = true) ∧ kv = .int .i64 (k : Int) ∧ nv = .int .i64 (Nu.val B i (min (k - i) 9))) (fun kv _ => n - (intOf kv).toNat)
  case atStart => exact ⟨i, Nat.le_refl _, hi, fun j a b => by omega, rfl, by rw [Nat.sub_self]; rfl⟩
  case round =>
    obtain ⟨k, hk1, hk2, hall, rfl, rfl⟩ := hrel
    have HALL := Nu.hid hall
    have hvb := Nu.val_lt_9 B i (min (k - i) 9) (by omega) (fun j hj => by
      have := hall (i + j) (by omega) (by omega)
      unfold Nu.isDigit at this
      simpa using this)
    have hdd : Nu.isDigit (B k) = true ↔ 48 ≤ B k ∧ B k ≤ 57 := by unfold Nu.isDigit; simp
    clear hall
    by_cases h0 : 48 ≤ B k ∧ B k ≤ 57
    · obtain ⟨h1, h2⟩ := h0
      have hkn : k < n := HD.out k h1
      have HST : Hid (∀ j, i ≤ j → j < k + 1 → Nu.isDigit (B j) = true) := fun j a b => by
        by_cases e : j = k
        · rw [e]; exact hdd.2 ⟨h1, h2⟩
        · exact HALL.out j a (by omega)
      obtain ⟨V, hV⟩ : ∃ V, Nu.val B i (min (k - i) 9) = V := ⟨_, rfl⟩
      rw [hV] at hvb ⊢
      obtain ⟨x, hx⟩ : ∃ x, B k = x := ⟨_, rfl⟩
      have HX : Hid (Calls Tryd.prog 23 #[.slice ao n cap, .int .i64 (k : Int)] w fun e w'' => e = .returned (.int .i64 x) ∧ w'' = w) := by rw [← hx]; exact HAT.out k hk2
      have HXX := Nu.hid hx
      rw [hx] at h1 h2
      clear hdd hx
      by_cases h9 : k < i + 9
      · have h9' : (k : Int) < (i : Int) + 9 := by omega
        have HN : Hid (Nu.val B i (min (k + 1 - i) 9) = 10 * V + x - 48) := by
          refine Nu.hid ?_
          rw [Nu.val_min_succ hk1 (by omega), hV, HXX.out]
          omega
        clear hV
        go_wp2_with (go_at_call 23; refine HX.out.mono ?_; rintro e w' ⟨rfl, rfl⟩)
        go_round
        case rel => exact ⟨k + 1, by omega, by omega, HST.out, by go_num, by rw [HN.out]⟩
        case measure => simp [intOf]; omega
      · have h9' : ¬ ((k : Int) < (i : Int) + 9) := by omega
        have HN : Hid (Nu.val B i (min (k + 1 - i) 9) = V) := by
          refine Nu.hid ?_
          rw [Nu.val_min_same (by omega), hV]
        clear hV
        go_wp2_with (go_at_call 23; refine HX.out.mono ?_; rintro e w' ⟨rfl, rfl⟩)
        go_round
        case rel => exact ⟨k + 1, by omega, by omega, HST.out, by go_num, by rw [HN.out]⟩
        case measure => simp [intOf]; omega
    · obtain rfl : kE = k := HSK.out.uniq ⟨hk1, hk2, HALL.out, fun _ => by
        cases h : Nu.isDigit (B k) with
        | false => rfl
        | true => exact absurd (hdd.1 h) h0⟩
      obtain ⟨hok', hok0⟩ := HOK.out
      have hok : Ce.okNum B n i ↔ (i : Int) < (kE : Int) ∧ (kE : Int) - (i : Int) ≤ 9 ∧ ((kE : Int) - (i : Int) = 1 ∨ B i ≠ 48) := by
        rw [hok0]
        omega
      have hcs : ((i : Int) < (kE : Int) → (kE : Int) - (i : Int) ≤ 9 → (kE : Int) - (i : Int) = 1 → ok = true) ∧ ((i : Int) < (kE : Int) → (kE : Int) - (i : Int) ≤ 9 → ¬ (kE : Int) - (i : Int) = 1 → ok = (B i != 48)) ∧ (¬ (i : Int) < (kE : Int) → ok = false) ∧ (¬ (kE : Int) - (i : Int) ≤ 9 → ok = false) := by
        rw [← hok']
        refine ⟨fun a b c => by rw [decide_eq_true_iff, hok]; exact ⟨a, b, .inl c⟩, fun a b c => ?_, fun a => by rw [decide_eq_false_iff_not, hok]; exact fun h => a h.1, fun a => by rw [decide_eq_false_iff_not, hok]; exact fun h => a h.2.1⟩
        by_cases e : B i = 48
        · rw [e, decide_eq_false (by rw [hok]; omega)]
          rfl
        · rw [decide_eq_true (by rw [hok]; exact ⟨a, b, .inr e⟩)]
          simp [e]
      rw [HVE.out]
      obtain ⟨x, hx⟩ : ∃ x, B kE = x := ⟨_, rfl⟩
      obtain ⟨y, hy⟩ : ∃ y, B i = y := ⟨_, rfl⟩
      have HX : Hid (Calls Tryd.prog 23 #[.slice ao n cap, .int .i64 (kE : Int)] w fun e w'' => e = .returned (.int .i64 x) ∧ w'' = w) := by rw [← hx]; exact HAT.out kE hk2
      have HY : Hid (Calls Tryd.prog 23 #[.slice ao n cap, .int .i64 (i : Int)] w fun e w'' => e = .returned (.int .i64 y) ∧ w'' = w) := by rw [← hy]; exact HAT.out i hi
      rw [hx] at h0
      rw [hy] at hcs
      obtain ⟨k1, k2, k3, k4⟩ := hcs
      have K1 := Nu.hid k1
      have K2 := Nu.hid k2
      have K3 := Nu.hid k3
      have K4 := Nu.hid k4
      clear hok hok' hok0 HOK hx hy hvb hdd k1 k2 k3 k4 HAT HD HALL HSK HVE
      by_cases c0 : i < kE
      · have c1 : (i : Int) < (kE : Int) := by omega
        by_cases c2 : (kE : Int) - (i : Int) ≤ 9
        · by_cases c3 : (kE : Int) - (i : Int) = 1
          · obtain rfl := K1.out c1 c2 c3
            have c3' : ((kE : Int) - (i : Int) == 1) = true := by simp [c3]
            by_cases h1 : 48 ≤ x
            all_goals (try have h2 : ¬ x ≤ 57 := fun h => h0 ⟨h1, h⟩)
            all_goals (clear h0 c3; go_wp2_with (go_at_call 23; refine HX.out.mono ?_; rintro e w' ⟨rfl, rfl⟩); go_ret3; exact ⟨rfl, rfl⟩)
          · obtain rfl := K2.out c1 c2 c3
            have c3' : ((kE : Int) - (i : Int) == 1) = false := by simp [c3]
            by_cases h1 : 48 ≤ x
            all_goals (try have h2 : ¬ x ≤ 57 := fun h => h0 ⟨h1, h⟩)
            all_goals (clear h0 c3; go_wp2_with (first | (go_at_call 23; with_reducible refine HX.out.mono ?_; rintro e w' ⟨rfl, rfl⟩) | (go_at_call 23; with_reducible refine HY.out.mono ?_; rintro e w' ⟨rfl, rfl⟩)); go_ret3; exact ⟨rfl, rfl⟩)
        · obtain rfl := K4.out c2
          by_cases h1 : 48 ≤ x
          all_goals (try have h2 : ¬ x ≤ 57 := fun h => h0 ⟨h1, h⟩)
          all_goals (clear h0; go_wp2_with (go_at_call 23; refine HX.out.mono ?_; rintro e w' ⟨rfl, rfl⟩); go_ret3; exact ⟨rfl, rfl⟩)
      · have c1 : ¬ (i : Int) < (kE : Int) := by omega
        obtain rfl := K3.out c1
        by_cases h1 : 48 ≤ x
        all_goals (try have h2 : ¬ x ≤ 57 := fun h => h0 ⟨h1, h⟩)
        all_goals (clear h0; go_wp2_with (go_at_call 23; refine HX.out.mono ?_; rintro e w' ⟨rfl, rfl⟩); go_ret3; exact ⟨rfl, rfl⟩)
/-- A number is there. -/
theorem rdig17_yes {ao : Option Addr} {n cap : Nat} {g : Nat → Int} {w : World} (h : HasText w ao n g) (hn : n ≤ 1125899906842624) {i : Nat} (hi : i ≤ n) {v : Int} {k : Nat} (hm : Ce.num (Ce.atF n g) n i = some (v, k)) :
    Calls Tryd.prog 24 #[.slice ao n cap, .int .i64 (i : Int)] w fun e w' => e = .returned (.tuple #[.int .i64 v, .int .i64 (k : Int), .bool true]) ∧ w' = w := by
  unfold Ce.num at hm
  split at hm
  · rename_i hok
    obtain ⟨h1, h2⟩ := Prod.mk.inj (Option.some.inj hm)
    have := rdig17_any h hn i hi (cap := cap)
    rw [decide_eq_true hok, Nat.min_eq_left (by unfold Ce.okNum at hok; exact hok.2.1), h1, h2] at this
    exact this
  · cases hm
/-- None is there. -/
theorem rdig17_no {ao : Option Addr} {n cap : Nat} {g : Nat → Int} (hn : n ≤ 1125899906842624) {i : Nat} (hi : i ≤ n) (hm : Ce.num (Ce.atF n g) n i = none) :
    ∃ v k : Int, ∀ w, HasText w ao n g → Calls Tryd.prog 24 #[.slice ao n cap, .int .i64 (i : Int)] w fun e w' => e = .returned (.tuple #[.int .i64 v, .int .i64 k, .bool false]) ∧ w' = w := by
  unfold Ce.num at hm
  split at hm
  · cases hm
  · rename_i hok
    refine ⟨Nu.val (Ce.atF n g) i (min (Ce.dEnd (Ce.atF n g) n i - i) 9), (Ce.dEnd (Ce.atF n g) n i : Int), fun w h => ?_⟩
    have := rdig17_any h hn i hi (cap := cap)
    rw [decide_eq_false hok] at this
    exact this
end Go.Proofs.YtfjgmbimapkabaaDoor
/-
  The scanner in memory: the words by which the walks say where its text and its place lie, and their small laws.
-/
namespace Go.Proofs.YtfjgmbimapkabaaDoor
open Go.RowKit

/-- Block b is a scanner over the slice ao, n, cap, and stands at p. -/
def Scn (w : World) (b : Nat) (ao : Option Addr) (n cap p : Nat) : Prop :=
  w.heap[b]? = some (.cells #[.slice ao n cap, .int .i64 p] 121 (0, 0))

/-- The place of the scanner b, as a number. -/
def posOf (w : World) (b : Nat) : Nat := match w.cell? ⟨b, 1, none⟩ with
  | some (.int _ x) => x.toNat
  | _ => 0

section
variable {w w' : World} {b : Nat} {ao : Option Addr} {n cap p : Nat} {g : Nat → Int}

theorem Scn.lt (h : Scn w b ao n cap p) : b < w.heap.size := lt_of_block h
theorem Scn.text (h : Scn w b ao n cap p) : w.cell? ⟨b, 0, none⟩ = some (.slice ao n cap) := by unfold Scn at h; simp [World.cell?, h]
theorem Scn.place (h : Scn w b ao n cap p) : w.cell? ⟨b, 1, none⟩ = some (.int .i64 p) := by unfold Scn at h; simp [World.cell?, h]
theorem Scn.free (h : Scn w b ao n cap p) (i : Nat) : w.frozen? ⟨b, i, none⟩ = false := by unfold Scn at h; simp [World.frozen?, h]
theorem Scn.pos (h : Scn w b ao n cap p) : posOf w b = p := by simp [posOf, h.place]
theorem Scn.set (h : Scn w b ao n cap p) (q : Nat) : Scn (w.setCell ⟨b, 1, none⟩ (.int .i64 q)) b ao n cap q := by
  unfold Scn at h ⊢
  rw [heap_setCell_same w b 1 _ _ _ h]
  simp
theorem Scn.alloc (h : Scn w b ao n cap p) (o : Obj) : Scn (w.alloc o) b ao n cap p := (Below.heap_alloc w o b h.lt).trans h
theorem Scn.kept {r : Option Nat} (h : Scn w b ao n cap p) (hg : w.grownBy w' r) (hr : some b ≠ r) : Scn w' b ao n cap p := (hg.block b h.lt hr).trans h
theorem Scn.drew (h : Scn w b ao n cap p) : Scn w.drew b ao n cap p := h
theorem Scn.drewN (h : Scn w b ao n cap p) (k : Nat) : Scn (w.drewN k) b ao n cap p := h

theorem Scn.put4 (h : Scn w b ao n cap p) {B : Nat} (hB : b ≠ B) (x0 x1 x2 x3 : Value) : Scn (put4 w B x0 x1 x2 x3) b ao n cap p := (put4_other hB x0 x1 x2 x3).trans h
end

end Go.Proofs.YtfjgmbimapkabaaDoor
/-
  The program's reader: does a byte stand here; a byte is wanted; one edge above another one.
-/
namespace Go.Proofs.YtfjgmbimapkabaaDoor
open Go.RowKit

/-- Block b is a reader over the slice ao, n, cap, and stands at p. -/
def Rdr (w : World) (b : Nat) (ao : Option Addr) (n cap p : Nat) : Prop :=
  w.heap[b]? = some (.cells #[.slice ao n cap, .int .i64 p] 69 (0, 0))
/-- A fault at p. -/
def faultAt (p : Nat) : Ending := .panicked [{ v := .iface 67 (.int .i64 (p : Int)), recovered := false }]
section
variable {w w' : World} {b : Nat} {ao : Option Addr} {n cap p : Nat} {g : Nat → Int}
theorem Rdr.lt (h : Rdr w b ao n cap p) : b < w.heap.size := lt_of_block h
theorem Rdr.text (h : Rdr w b ao n cap p) : w.cell? ⟨b, 0, none⟩ = some (.slice ao n cap) := by unfold Rdr at h; simp [World.cell?, h]
theorem Rdr.place (h : Rdr w b ao n cap p) : w.cell? ⟨b, 1, none⟩ = some (.int .i64 p) := by unfold Rdr at h; simp [World.cell?, h]
theorem Rdr.free (h : Rdr w b ao n cap p) (i : Nat) : w.frozen? ⟨b, i, none⟩ = false := by unfold Rdr at h; simp [World.frozen?, h]
theorem Rdr.pos (h : Rdr w b ao n cap p) : posOf w b = p := by simp [posOf, h.place]
theorem Rdr.set (h : Rdr w b ao n cap p) (q : Nat) : Rdr (w.setCell ⟨b, 1, none⟩ (.int .i64 q)) b ao n cap q := by
  unfold Rdr at h ⊢
  rw [heap_setCell_same w b 1 _ _ _ h]
  simp
theorem Rdr.alloc (h : Rdr w b ao n cap p) (o : Obj) : Rdr (w.alloc o) b ao n cap p := (Below.heap_alloc w o b h.lt).trans h
theorem Rdr.drewN (h : Rdr w b ao n cap p) (k : Nat) : Rdr (w.drewN k) b ao n cap p := h
theorem Rdr.later (h : Rdr w b ao n cap p) (hb : Below w.heap.size w w') : Rdr w' b ao n cap p := (hb.block _ h.lt).trans h
theorem Rdr.kept {r : Option Nat} (h : Rdr w b ao n cap p) (hg : w.grownBy w' r) (hr : some b ≠ r) : Rdr w' b ao n cap p := (hg.block b h.lt hr).trans h
end

theorem grownBy_of_below {w w' : World} {r : Option Nat} (h : Below w.heap.size w w') : w.grownBy w' r := ⟨h.os, h.tape, h.output, h.size, fun k hk _ => h.block k hk⟩

set_option maxHeartbeats 1000000 in
/-- The reader passes a byte that stands there. -/
theorem passes17_yes {b : Nat} {ao : Option Addr} {n cap p : Nat} {g : Nat → Int} {w : World} (hs : Rdr w b ao n cap p) (ht : HasText w ao n g) (hn : n ≤ 33554432) (_hp : p ≤ n) {c : Int} (h0 : 0 ≤ c) (hc : Ce.atF n g p = c) :
    Calls Tryd.prog 36 #[.pointer (some ⟨b, 0, none⟩), .int .u8 c] w fun e w' => e = .returned (.bool true) ∧ Rdr w' b ao n cap (p + 1) ∧ w.grownBy w' (some b) ∧ p < n := by
  have hlt : p < n := by
    unfold Ce.atF at hc
    split at hc
    · assumption
    · omega
  rw [Ce.atF, if_pos hlt] at hc
  obtain ⟨⟨b0, b1⟩, tb, to, rfl, cq⟩ := ht p hlt
  rw [hc] at cq
  have c0 := hs.text
  have c1 := hs.place
  have fz := hs.free 1
  have j0 : ((p : Int) == (n : Int)) = false := by simp; omega
  have j1 : (p : Int) < (n : Int) := by omega
  have j2 : (0 : Int) ≤ (p : Int) := by omega
  have HS := Nu.hid hs
  have HT := Nu.hid ht
  clear hs ht hc
  go_enter Tryd.func36, Tryd.ntmps36
  go_wp2_with fail
  go_quiet (fail)
  go_wp2
  go_ret
  exact ⟨rfl, (HS.out.drewN _).set (p + 1), grownBy_setCell (grownBy_drewN (World.grownBy.refl _ _) _) 1 _, hlt⟩
set_option maxHeartbeats 1000000 in
/-- Another one stands there, or none. -/
theorem passes17_no {b : Nat} {ao : Option Addr} {n cap p : Nat} {g : Nat → Int} {w : World} (hs : Rdr w b ao n cap p) (ht : HasText w ao n g) (hn : n ≤ 33554432) (hp : p ≤ n) {c : Int} (hc : Ce.atF n g p ≠ c) :
    Calls Tryd.prog 36 #[.pointer (some ⟨b, 0, none⟩), .int .u8 c] w fun e w' => e = .returned (.bool false) ∧ Rdr w' b ao n cap p ∧ w.grownBy w' (some b) := by
  have c0 := hs.text
  have c1 := hs.place
  have j2 : (0 : Int) ≤ (p : Int) := by omega
  by_cases hlt : p < n
  · rw [Ce.atF, if_pos hlt] at hc
    obtain ⟨⟨b0, b1⟩, tb, to, rfl, cq⟩ := ht p hlt
    have j0 : ((p : Int) == (n : Int)) = false := by simp; omega
    have j1 : (p : Int) < (n : Int) := by omega
    have j3 : (g p == c) = false := by simp [hc]
    have HS := Nu.hid hs
    have HT := Nu.hid ht
    clear hs ht hc
    go_enter Tryd.func36, Tryd.ntmps36
    go_wp2_with fail
    go_quiet (fail)
    go_wp2
    go_ret
    exact ⟨rfl, HS.out.drewN _, grownBy_drewN (World.grownBy.refl _ _) _⟩
  · obtain rfl : p = n := by omega
    have HS := Nu.hid hs
    have HT := Nu.hid ht
    clear hs ht hc
    go_enter Tryd.func36, Tryd.ntmps36
    go_wp2_with fail
    go_quiet (fail)
    go_wp2
    go_ret
    exact ⟨rfl, HS.out.drewN _, grownBy_drewN (World.grownBy.refl _ _) _⟩

set_option maxHeartbeats 1000000 in
theorem want17_yes {b : Nat} {ao : Option Addr} {n cap p : Nat} {g : Nat → Int} {w : World} (hs : Rdr w b ao n cap p) (ht : HasText w ao n g) (hn : n ≤ 33554432) (hp : p ≤ n) {c : Int} (h0 : 0 ≤ c) (hc : Ce.atF n g p = c) :
    Calls Tryd.prog 38 #[.pointer (some ⟨b, 0, none⟩), .int .u8 c] w fun e w' => e = .returned (.tuple #[]) ∧ Rdr w' b ao n cap (p + 1) ∧ w.grownBy w' (some b) ∧ p < n := by
  have HP := Nu.hid (passes17_yes hs ht hn hp h0 hc)
  clear hs ht hc
  go_enter Tryd.func38, Tryd.ntmps38
  go_wp2_with (go_at_call 36; refine HP.out.mono ?_; rintro e w' ⟨rfl, h⟩)
  go_end0
  exact ⟨rfl, h⟩
set_option maxHeartbeats 1000000 in
theorem want17_no {b : Nat} {ao : Option Addr} {n cap p : Nat} {g : Nat → Int} {w : World} (hs : Rdr w b ao n cap p) (ht : HasText w ao n g) (hn : n ≤ 33554432) (hp : p ≤ n) {c : Int} (hc : Ce.atF n g p ≠ c) :
    Calls Tryd.prog 38 #[.pointer (some ⟨b, 0, none⟩), .int .u8 c] w fun e w' => e = faultAt p ∧ w.grownBy w' (some b) := by
  have HP := Nu.hid (passes17_no hs ht hn hp hc)
  clear hs ht hc
  go_enter Tryd.func38, Tryd.ntmps38
  go_wp2_with (go_at_call 36; refine HP.out.mono ?_; rintro e w' ⟨rfl, hr, hg⟩; have c1 := hr.place; clear hr)
  exact ⟨rfl, rfl, hg⟩

theorem pdigits17 (x : Int) (w : World) : Calls Tryd.prog 89 #[.int .i64 x] w fun e w' => e = .returned (.bool (decide (0 ≤ x ∧ x ≤ 999999999))) ∧ w' = w := by
  by_cases h0 : 0 ≤ x
  · by_cases h1 : x ≤ 999999999
    · rw [decide_eq_true ⟨h0, h1⟩]
      go_enter Tryd.func89, Tryd.ntmps89
      go_wp2
      go_ret
      exact ⟨rfl, rfl⟩
    · rw [decide_eq_false (fun h => h1 h.2)]
      go_enter Tryd.func89, Tryd.ntmps89
      go_wp2
      go_ret
      exact ⟨rfl, rfl⟩
  · rw [decide_eq_false (fun h => h0 h.1)]
    go_enter Tryd.func89, Tryd.ntmps89
    go_wp2
    go_ret
    exact ⟨rfl, rfl⟩
set_option maxHeartbeats 1000000 in
theorem above17 (a b c d : Int) (w : World) : Calls Tryd.prog 48 #[.agg #[.int .i64 a, .int .i64 b], .agg #[.int .i64 c, .int .i64 d]] w fun e w' => e = .returned (.bool (decide (c < a ∨ (c = a ∧ d < b)))) ∧ Below w.heap.size w w' := by
  by_cases h0 : c < a
  · rw [decide_eq_true (.inl h0)]
    go_enter Tryd.func48, Tryd.ntmps48
    go_wp2
    go_ret
    exact ⟨rfl, ((Below.refl _ _).alloc (Nat.le_refl _) _).alloc (by simp) _⟩
  · by_cases h1 : c = a
    · subst h1
      by_cases h2 : d < b
      · rw [decide_eq_true (.inr ⟨rfl, h2⟩)]
        go_enter Tryd.func48, Tryd.ntmps48
        go_wp2
        go_ret
        exact ⟨rfl, ((Below.refl _ _).alloc (Nat.le_refl _) _).alloc (by simp) _⟩
      · rw [decide_eq_false (by omega)]
        go_enter Tryd.func48, Tryd.ntmps48
        go_wp2
        go_ret
        exact ⟨rfl, ((Below.refl _ _).alloc (Nat.le_refl _) _).alloc (by simp) _⟩
    · have h3 : (a == c) = false := by simp; omega
      rw [decide_eq_false (by omega)]
      go_enter Tryd.func48, Tryd.ntmps48
      go_wp2
      go_ret
      exact ⟨rfl, ((Below.refl _ _).alloc (Nat.le_refl _) _).alloc (by simp) _⟩
end Go.Proofs.YtfjgmbimapkabaaDoor
/-
  What the scanner's small callees answer: blank and digit of a byte.
-/
namespace Go.Proofs.YtfjgmbimapkabaaDoor
open Go.RowKit

set_option maxHeartbeats 400000 in
theorem blank_any (c : Int) (w : World) :
    Calls Tryd.prog 67 #[.int .u8 c] w fun e w' => e = .returned (.bool (Nu.isBlank c)) ∧ w' = w := by
  unfold Nu.isBlank
  by_cases h1 : c = 32
  · subst h1
    go_enter Tryd.func67, Tryd.ntmps67
    go_wp2
    go_ret
    exact ⟨rfl, rfl⟩
  · have e1 : (c == 32) = false := by simp [h1]
    by_cases h2 : c = 9
    · subst h2
      go_enter Tryd.func67, Tryd.ntmps67
      go_wp2
      go_ret
      exact ⟨rfl, rfl⟩
    · have e2 : (c == 9) = false := by simp [h2]
      rw [e1, e2]
      go_enter Tryd.func67, Tryd.ntmps67
      go_wp2
      go_ret
      exact ⟨by simp, rfl⟩

set_option maxHeartbeats 400000 in
theorem digit_any (c : Int) (w : World) :
    Calls Tryd.prog 68 #[.int .u8 c] w fun e w' => e = .returned (.bool (Nu.isDigit c)) ∧ w' = w := by
  unfold Nu.isDigit
  by_cases h1 : 48 ≤ c
  · have e1 : decide (48 ≤ c) = true := by simp [h1]
    rw [e1]
    go_enter Tryd.func68, Tryd.ntmps68
    go_wp2
    go_ret
    exact ⟨by simp, rfl⟩
  · have e1 : decide (48 ≤ c) = false := by simp [h1]
    rw [e1]
    go_enter Tryd.func68, Tryd.ntmps68
    go_wp2
    go_ret
    exact ⟨by simp, rfl⟩

end Go.Proofs.YtfjgmbimapkabaaDoor
