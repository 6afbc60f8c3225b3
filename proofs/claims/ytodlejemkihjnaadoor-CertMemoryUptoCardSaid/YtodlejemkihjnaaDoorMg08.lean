import Derived.Test.YtodlejemkihjnaaDoorMg06
import Derived.Test.YtodlejemkihjnaaDoorMg00
import Derived.Test.YtodlejemkihjnaaDoorMg04
import Derived.Maps.AppendAt
import Derived.Sort.Grow
import Derived.Test.YtodlejemkihjnaaDoorMg07
/-
  The document's own at and digits.
-/
namespace Go.Proofs.YtodlejemkihjnaaDoor
open Go.RowKit

/-- The byte at a place, -1 behind the end. -/
def Ce.atF (n : Nat) (g : Nat → Int) (i : Nat) : Int := if i < n then g i else -1
theorem HasText.txt {w : World} {ao : Option Addr} {n : Nat} {g : Nat → Int} (h : HasText w ao n g) : Ce.Txt (Ce.atF n g) n :=
  ⟨fun i hi => if_neg (by omega), fun i hi => by rw [Ce.atF, if_pos hi]; exact (h i hi).1⟩

set_option maxRecDepth 100000 in
theorem rat17_any {ao : Option Addr} {n cap : Nat} {g : Nat → Int} {w : World} (h : HasText w ao n g) (i : Nat) (_ : i ≤ 4611686018427387904) :
    Calls Tryd.prog 14 #[.slice ao n cap, .int .i64 (i : Int)] w fun e w' => e = .returned (.int .i64 (Ce.atF n g i)) ∧ w' = w := by
  have h0 : ¬ ((i : Int) < 0) := by omega
  by_cases hlt : i < n
  · obtain ⟨⟨b0, b1⟩, tb, to, rfl, hc⟩ := h i hlt
    have h1 : ¬ ((n : Int) ≤ (i : Int)) := by omega
    have h2 : (i : Int) < (n : Int) := by omega
    have h3 : (0 : Int) ≤ (i : Int) := by omega
    have e : Ce.atF n g i = g i := if_pos hlt
    rw [e]
    go_enter Tryd.func14, Tryd.ntmps14
    go_wp2
    go_ret
    exact ⟨rfl, rfl⟩
  · have h1 : (n : Int) ≤ (i : Int) := by omega
    have e : Ce.atF n g i = -1 := if_neg hlt
    rw [e]
    go_enter Tryd.func14, Tryd.ntmps14
    go_wp2
    go_ret
    exact ⟨rfl, rfl⟩

theorem Ce.atF_digit {n : Nat} {g : Nat → Int} {i : Nat} (h : 48 ≤ Ce.atF n g i) : i < n := by
  unfold Ce.atF at h
  split at h
  · assumption
  · omega

set_option maxRecDepth 100000 in
set_option maxHeartbeats 4000000 in
theorem rdig17_any {ao : Option Addr} {n cap : Nat} {g : Nat → Int} {w : World} (h : HasText w ao n g) (hn : n ≤ 1125899906842624) (i : Nat) (hi : i ≤ n) :
    Calls Tryd.prog 15 #[.slice ao n cap, .int .i64 (i : Int)] w fun e w' => e = .returned (.tuple #[.int .i64 (Nu.val (Ce.atF n g) i (min (Ce.dEnd (Ce.atF n g) n i - i) 9)), .int .i64 (Ce.dEnd (Ce.atF n g) n i : Int), .bool (decide (Ce.okNum (Ce.atF n g) n i))]) ∧ w' = w := by
  have HAT : Hid (∀ j : Nat, j ≤ n → Calls Tryd.prog 14 #[.slice ao n cap, .int .i64 (j : Int)] w fun e w' => e = .returned (.int .i64 (Ce.atF n g j)) ∧ w' = w) := fun j hj => rat17_any h j (by omega)
  obtain ⟨B, hB⟩ : ∃ B, Ce.atF n g = B := ⟨_, rfl⟩
  have HD : Hid (∀ j, 48 ≤ B j → j < n) := fun j hj => by rw [← hB] at hj; exact Ce.atF_digit hj
  rw [hB] at HAT ⊢
  have hsk := Nu.skip_is Nu.isDigit B n i hi
  have hok : Ce.okNum B n i ↔ (i < Ce.dEnd B n i ∧ Ce.dEnd B n i - i ≤ 9 ∧ (Ce.dEnd B n i - i = 1 ∨ B i ≠ 48)) := Iff.rfl
  obtain ⟨kE, hkE⟩ : ∃ kE, Ce.dEnd B n i = kE := ⟨_, rfl⟩
  rw [show Nu.skip Nu.isDigit B n i = Ce.dEnd B n i from rfl, hkE] at hsk
  rw [hkE] at hok ⊢
  obtain ⟨vE, hvE⟩ : ∃ vE, Nu.val B i (min (kE - i) 9) = vE := ⟨_, rfl⟩
  obtain ⟨ok, hok'⟩ : ∃ ok, decide (Ce.okNum B n i) = ok := ⟨_, rfl⟩
  rw [hvE, hok']
  have HSK := Nu.hid hsk
  have HVE := Nu.hid hvE
  have HOK := Nu.hid (And.intro hok' hok)
  clear h hB hsk hkE hvE hok' hok
  go_enter Tryd.func15, Tryd.ntmps15
  go_wp2
  go_loop [7, 8] (fun kv nv => ∃ k : Nat, i ≤ k ∧ k ≤ n ∧ (∀ j, i ≤ j → j < k → Nu.isDigit (B j) = true) ∧ kv = .int .i64 (k : Int) ∧ nv = .int .i64 (Nu.val B i (min (k - i) 9))) (fun kv _ => n - (intOf kv).toNat)
  case atStart => exact ⟨i, Nat.le_refl _, hi, fun j a b => by omega, rfl, by rw [Nat.sub_self]; rfl⟩
  case round =>
    obtain ⟨k, hk1, hk2, hall, rfl, rfl⟩ := hrel
    have HALL := Nu.hid hall
    have hvb := Nu.val_lt_9 B i (min (k - i) 9) (by omega) (fun j hj => by
      have := hall (i + j) (by omega) (by omega)
      unfold Nu.isDigit at this
      simpa using this)
    have hdd : Nu.isDigit (B k) = true ↔ 48 ≤ B k ∧ B k ≤ 57 := by unfold Nu.isDigit; simp
    clear hall
    by_cases h0 : 48 ≤ B k ∧ B k ≤ 57
    · obtain ⟨h1, h2⟩ := h0
      have hkn : k < n := HD.out k h1
      have HST : Hid (∀ j, i ≤ j → j < k + 1 → Nu.isDigit (B j) = true) := fun j a b => by
        by_cases e : j = k
        · rw [e]; exact hdd.2 ⟨h1, h2⟩
        · exact HALL.out j a (by omega)
      obtain ⟨V, hV⟩ : ∃ V, Nu.val B i (min (k - i) 9) = V := ⟨_, rfl⟩
      rw [hV] at hvb ⊢
      obtain ⟨x, hx⟩ : ∃ x, B k = x := ⟨_, rfl⟩
      have HX : Hid (Calls Tryd.prog 14 #[.slice ao n cap, .int .i64 (k : Int)] w fun e w'' => e = .returned (.int .i64 x) ∧ w'' = w) := by rw [← hx]; exact HAT.out k hk2
      have HXX := Nu.hid hx
      rw [hx] at h1 h2
      clear hdd hx
      by_cases h9 : k < i + 9
      · have h9' : (k : Int) < (i : Int) + 9 := by omega
        have HN : Hid (Nu.val B i (min (k + 1 - i) 9) = 10 * V + x - 48) := by
          refine Nu.hid ?_
          rw [Nu.val_min_succ hk1 (by omega), hV, HXX.out]
          omega
        clear hV
        go_wp2_with (go_at_call 14; refine HX.out.mono ?_; rintro e w' ⟨rfl, rfl⟩)
        go_round
        case rel => exact ⟨k + 1, by omega, by omega, HST.out, by go_num, by rw [HN.out]⟩
        case measure => simp [intOf]; omega
      · have h9' : ¬ ((k : Int) < (i : Int) + 9) := by omega
        have HN : Hid (Nu.val B i (min (k + 1 - i) 9) = V) := by
          refine Nu.hid ?_
          rw [Nu.val_min_same (by omega), hV]
        clear hV
        go_wp2_with (go_at_call 14; refine HX.out.mono ?_; rintro e w' ⟨rfl, rfl⟩)
        go_round
        case rel => exact ⟨k + 1, by omega, by omega, HST.out, by go_num, by rw [HN.out]⟩
        case measure => simp [intOf]; omega
    · obtain rfl : kE = k := HSK.out.uniq ⟨hk1, hk2, HALL.out, fun _ => by
        cases h : Nu.isDigit (B k) with
        | false => rfl
        | true => exact absurd (hdd.1 h) h0⟩
      obtain ⟨hok', hok0⟩ := HOK.out
      have hok : Ce.okNum B n i ↔ (i : Int) < (kE : Int) ∧ (kE : Int) - (i : Int) ≤ 9 ∧ ((kE : Int) - (i : Int) = 1 ∨ B i ≠ 48) := by
        rw [hok0]
        omega
      have hcs : ((i : Int) < (kE : Int) → (kE : Int) - (i : Int) ≤ 9 → (kE : Int) - (i : Int) = 1 → ok = true) ∧ ((i : Int) < (kE : Int) → (kE : Int) - (i : Int) ≤ 9 → ¬ (kE : Int) - (i : Int) = 1 → ok = (B i != 48)) ∧ (¬ (i : Int) < (kE : Int) → ok = false) ∧ (¬ (kE : Int) - (i : Int) ≤ 9 → ok = false) := by
        rw [← hok']
        refine ⟨fun a b c => by rw [decide_eq_true_iff, hok]; exact ⟨a, b, .inl c⟩, fun a b c => ?_, fun a => by rw [decide_eq_false_iff_not, hok]; exact fun h => a h.1, fun a => by rw [decide_eq_false_iff_not, hok]; exact fun h => a h.2.1⟩
        by_cases e : B i = 48
        · rw [e, decide_eq_false (by rw [hok]; omega)]
          rfl
        · rw [decide_eq_true (by rw [hok]; exact ⟨a, b, .inr e⟩)]
          simp [e]
      rw [HVE.out]
      obtain ⟨x, hx⟩ : ∃ x, B kE = x := ⟨_, rfl⟩
      obtain ⟨y, hy⟩ : ∃ y, B i = y := ⟨_, rfl⟩
      have HX : Hid (Calls Tryd.prog 14 #[.slice ao n cap, .int .i64 (kE : Int)] w fun e w'' => e = .returned (.int .i64 x) ∧ w'' = w) := by rw [← hx]; exact HAT.out kE hk2
      have HY : Hid (Calls Tryd.prog 14 #[.slice ao n cap, .int .i64 (i : Int)] w fun e w'' => e = .returned (.int .i64 y) ∧ w'' = w) := by rw [← hy]; exact HAT.out i hi
      rw [hx] at h0
      rw [hy] at hcs
      obtain ⟨k1, k2, k3, k4⟩ := hcs
      have K1 := Nu.hid k1
      have K2 := Nu.hid k2
      have K3 := Nu.hid k3
      have K4 := Nu.hid k4
      clear hok hok' hok0 HOK hx hy hvb hdd k1 k2 k3 k4 HAT HD HALL HSK HVE
      by_cases c0 : i < kE
      · have c1 : (i : Int) < (kE : Int) := by omega
        by_cases c2 : (kE : Int) - (i : Int) ≤ 9
        · by_cases c3 : (kE : Int) - (i : Int) = 1
          · obtain rfl := K1.out c1 c2 c3
            have c3' : ((kE : Int) - (i : Int) == 1) = true := by simp [c3]
            by_cases h1 : 48 ≤ x
            all_goals (try have h2 : ¬ x ≤ 57 := fun h => h0 ⟨h1, h⟩)
            all_goals (clear h0 c3; go_wp2_with (go_at_call 14; refine HX.out.mono ?_; rintro e w' ⟨rfl, rfl⟩); go_ret3; exact ⟨rfl, rfl⟩)
          · obtain rfl := K2.out c1 c2 c3
            have c3' : ((kE : Int) - (i : Int) == 1) = false := by simp [c3]
            by_cases h1 : 48 ≤ x
            all_goals (try have h2 : ¬ x ≤ 57 := fun h => h0 ⟨h1, h⟩)
            all_goals (clear h0 c3; go_wp2_with (first | (go_at_call 14; with_reducible refine HX.out.mono ?_; rintro e w' ⟨rfl, rfl⟩) | (go_at_call 14; with_reducible refine HY.out.mono ?_; rintro e w' ⟨rfl, rfl⟩)); go_ret3; exact ⟨rfl, rfl⟩)
        · obtain rfl := K4.out c2
          by_cases h1 : 48 ≤ x
          all_goals (try have h2 : ¬ x ≤ 57 := fun h => h0 ⟨h1, h⟩)
          all_goals (clear h0; go_wp2_with (go_at_call 14; refine HX.out.mono ?_; rintro e w' ⟨rfl, rfl⟩); go_ret3; exact ⟨rfl, rfl⟩)
      · have c1 : ¬ (i : Int) < (kE : Int) := by omega
        obtain rfl := K3.out c1
        by_cases h1 : 48 ≤ x
        all_goals (try have h2 : ¬ x ≤ 57 := fun h => h0 ⟨h1, h⟩)
        all_goals (clear h0; go_wp2_with (go_at_call 14; refine HX.out.mono ?_; rintro e w' ⟨rfl, rfl⟩); go_ret3; exact ⟨rfl, rfl⟩)
/-- A number is there. -/
theorem rdig17_yes {ao : Option Addr} {n cap : Nat} {g : Nat → Int} {w : World} (h : HasText w ao n g) (hn : n ≤ 1125899906842624) {i : Nat} (hi : i ≤ n) {v : Int} {k : Nat} (hm : Ce.num (Ce.atF n g) n i = some (v, k)) :
    Calls Tryd.prog 15 #[.slice ao n cap, .int .i64 (i : Int)] w fun e w' => e = .returned (.tuple #[.int .i64 v, .int .i64 (k : Int), .bool true]) ∧ w' = w := by
  unfold Ce.num at hm
  split at hm
  · rename_i hok
    obtain ⟨h1, h2⟩ := Prod.mk.inj (Option.some.inj hm)
    have := rdig17_any h hn i hi (cap := cap)
    rw [decide_eq_true hok, Nat.min_eq_left (by unfold Ce.okNum at hok; exact hok.2.1), h1, h2] at this
    exact this
  · cases hm
/-- None is there. -/
theorem rdig17_no {ao : Option Addr} {n cap : Nat} {g : Nat → Int} (hn : n ≤ 1125899906842624) {i : Nat} (hi : i ≤ n) (hm : Ce.num (Ce.atF n g) n i = none) :
    ∃ v k : Int, ∀ w, HasText w ao n g → Calls Tryd.prog 15 #[.slice ao n cap, .int .i64 (i : Int)] w fun e w' => e = .returned (.tuple #[.int .i64 v, .int .i64 k, .bool false]) ∧ w' = w := by
  unfold Ce.num at hm
  split at hm
  · cases hm
  · rename_i hok
    refine ⟨Nu.val (Ce.atF n g) i (min (Ce.dEnd (Ce.atF n g) n i - i) 9), (Ce.dEnd (Ce.atF n g) n i : Int), fun w h => ?_⟩
    have := rdig17_any h hn i hi (cap := cap)
    rw [decide_eq_false hok] at this
    exact this
end Go.Proofs.YtodlejemkihjnaaDoor

/-
  'append(v, z)' of a list of one's own.
-/
namespace Go.Proofs.YtodlejemkihjnaaDoor
open Go.RowKit Go.Sort

/-- 'append(v, z)', v a list of one's own. -/
theorem wpList_push {ops : Array Oper} {rest : List Oper} {o : Oper} {a : Act} {Q : Exit → Act → World → Prop} (hgd : o.guard = none) (s x : Operand)
    (ho : o.op = .call { callee := .builtin .append, args := #[s, x], argTypes := #[39, 39] }) (W : World) (B : Nat) (v : Value) (l : List Int) (z : Int) (hown : OwnZ W B v l)
    (hB : B ≤ W.heap.size) (hl : l.length ≤ 17592186044000) (hs : a.eval s = v) (hx : a.eval x = .slice (some ⟨W.heap.size, 0, none⟩) 1 1)
    (h : ∀ v' w', OwnZ w' B v' (l ++ [z]) → (W.alloc (.cells #[.int .i64 z] 3)).grownBy w' v.ownBlock → (v'.ownBlock = v.ownBlock ∨ v'.ownBlock = some (W.heap.size + 1)) → Below B W w' → wpList Tryd.prog ops Q rest (a.put o.dst v') w') :
    wpList Tryd.prog ops Q (o :: rest) a (W.alloc (.cells #[.int .i64 z] 3)) := by
  obtain ⟨i0, hi, hz0, hz1, hz2⟩ := info_parts Tryd.infoNum
  have hb0 : Below B W (W.alloc (.cells #[.int .i64 z] 3)) := (Below.refl _ _).alloc hB _
  refine wpList_append_own_at _ hgd s x 39 ho B 3 i0 (.int .i64 0) 1 8 Tryd.underlying39 hi hz0 hz1 hz2 rfl (by decide) _ _ _ hs (World.ownsRow.alloc hown _) ⟨W.heap.size, 0, none⟩ 1 1 [.int .i64 z] hx rfl (cell_one_new _ _ _) (by simp [Value.oneCell']) (by unfold maxLen; omega) (by omega) (by simp; omega) ?_
  intro v' w' hown' hg _ hat
  have ho' : OwnZ w' B v' (l ++ [z]) := by
    unfold OwnZ
    rw [List.length_append, List.map_append]
    exact hown'
  have hoB : ∀ b, v.ownBlock = some b → B ≤ b := fun b hb => (World.ownsRow.lt hown b hb).1
  refine h v' w' ho' hg (by simpa using hat) (hb0.grown hg (by simp; omega) hoB)

end Go.Proofs.YtodlejemkihjnaaDoor

/-
  The document's own list: a line of numbers.
-/
namespace Go.Proofs.YtodlejemkihjnaaDoor
open Go.RowKit

/-- What a line's reading answers. -/
def LstP (R : Except Nat (List Int × Nat)) (w : World) (e : Ending) (w' : World) : Prop :=
  Below w.heap.size w w' ∧ ((∃ l k v, R = .ok (l, k) ∧ e = .returned (.tuple #[v, .int .i64 ((k : Nat) : Int), .int .i64 (-1)]) ∧ OwnZ w' w.heap.size v l) ∨ ∃ p : Nat, R = .error p ∧ e = .returned (.tuple #[.slice none 0 0, .int .i64 0, .int .i64 (p : Int)]))

theorem HasText.eqs {w : World} {ao : Option Addr} {n cap : Nat} {g : Nat → Int} (h : HasText w ao n g) (hn : n ≤ 33554432) :
    (∀ W, Below w.heap.size w W → ∀ i : Nat, i ≤ n → Calls Tryd.prog 14 #[.slice ao n cap, .int .i64 (i : Int)] W fun e w' => e = .returned (.int .i64 (Ce.atF n g i)) ∧ w' = W) ∧
    (∀ W, Below w.heap.size w W → ∀ (i : Nat) (v : Int) (k : Nat), i ≤ n → Ce.num (Ce.atF n g) n i = some (v, k) → Calls Tryd.prog 15 #[.slice ao n cap, .int .i64 (i : Int)] W fun e w' => e = .returned (.tuple #[.int .i64 v, .int .i64 (k : Int), .bool true]) ∧ w' = W) ∧
    (∀ i : Nat, i ≤ n → Ce.num (Ce.atF n g) n i = none → ∃ v k : Int, ∀ W, Below w.heap.size w W → Calls Tryd.prog 15 #[.slice ao n cap, .int .i64 (i : Int)] W fun e w' => e = .returned (.tuple #[.int .i64 v, .int .i64 k, .bool false]) ∧ w' = W) :=
  ⟨fun W hW i hi => rat17_any (h.later hW) i (by omega), fun W hW i v k hi hm => rdig17_yes (h.later hW) (by omega) hi hm, fun i hi hm => by
    obtain ⟨v, k, hc⟩ := rdig17_no (ao := ao) (cap := cap) (by omega) hi hm
    exact ⟨v, k, fun W hW => hc W (h.later hW)⟩⟩

set_option maxRecDepth 100000 in
set_option maxHeartbeats 4000000 in
theorem rlist17_any {ao : Option Addr} {n cap : Nat} {g : Nat → Int} {w : World} (h : HasText w ao n g) (hn : n ≤ 33554432) (i : Nat) (hi : i ≤ n) :
    Calls Tryd.prog 16 #[.slice ao n cap, .int .i64 (i : Int)] w (LstP (Ce.lst (Ce.atF n g) n i) w) := by
  obtain ⟨hA, hY, hN⟩ := h.eqs (cap := cap) hn
  have hT := h.txt
  obtain ⟨B, hB⟩ : ∃ B, Ce.atF n g = B := ⟨_, rfl⟩
  rw [hB] at hA hY hN hT ⊢
  have HA := Nu.hid hA
  have HY := Nu.hid hY
  have HN := Nu.hid hN
  have HT := Nu.hid hT
  obtain ⟨R, hR⟩ : ∃ R, Ce.lst B n i = R := ⟨_, rfl⟩
  rw [hR]
  obtain ⟨x, hx⟩ : ∃ x, B i = x := ⟨_, rfl⟩
  have HX : Hid (Calls Tryd.prog 14 #[.slice ao n cap, .int .i64 (i : Int)] w fun e w' => e = .returned (.int .i64 x) ∧ w' = w) := by rw [← hx]; exact hA w (Below.refl _ _) i hi
  unfold Ce.lst at hR
  rw [hx] at hR
  clear h hA hY hN hT hB hx
  by_cases h10 : x = 10
  · have hb : (x == 10) = true := by simp [h10]
    rw [if_pos h10] at hR
    have HR := Nu.hid hR
    clear hR h10
    go_enter Tryd.func16, Tryd.ntmps16
    go_wp2_with (go_at_call 14; refine HX.out.mono ?_; rintro e w' ⟨rfl, hw'⟩; obtain rfl := hw'.symm; clear hw')
    go_ret3
    exact ⟨Below.refl _ _, .inl ⟨[], i + 1, _, HR.out.symm, by first | rfl | (rw [show ((i + 1 : Nat) : Int) = (i : Int) + 1 by omega]), OwnZ.nil _ _⟩⟩
  · have hb : (x == 10) = false := by simp [h10]
    rw [if_neg h10] at hR
    have HR := Nu.hid hR
    clear hR h10
    go_enter Tryd.func16, Tryd.ntmps16
    go_wp2_with (go_at_call 14; refine HX.out.mono ?_; rintro e w' ⟨rfl, hw'⟩; obtain rfl := hw'.symm; clear hw')
    go_loopw [1, 7] (fun iv lv wr => ∃ (j f : Nat) (l : List Int), j ≤ n ∧ n - j < f ∧ l.length ≤ j ∧ iv = .int .i64 (j : Int) ∧ OwnZ wr w.heap.size lv l ∧ Below w.heap.size w wr ∧ Ce.lstF B n f l j = R) (fun iv _ _ => n - (intOf iv).toNat)
    case atStart => exact ⟨i, n + 1, [], hi, by omega, Nat.zero_le _, rfl, OwnZ.nil _ _, Below.refl _ _, HR.out⟩
    case round =>
      obtain ⟨j, f, l, hj, hf, hlj, rfl, hown, hbw, hRj⟩ := hrel
      obtain ⟨f, rfl⟩ : ∃ f', f = f' + 1 := ⟨f - 1, by omega⟩
      unfold Ce.lstF at hRj
      obtain ⟨lo, lc, rfl, hat, -⟩ := hown.form
      have HO := Nu.hid hown
      have HB := Nu.hid hbw
      have hsz := hbw.size
      clear hown hbw HR
      cases hm : Ce.num B n j with
      | none =>
        rw [hm] at hRj
        obtain ⟨v, k, hc⟩ := HN.out j hj hm
        have HC := Nu.hid (hc wr HB.out)
        have HRJ := Nu.hid hRj
        clear hm hRj hc hat
        go_wp2_with (go_at_call 15; refine HC.out.mono ?_; rintro e w' ⟨rfl, hw'⟩; obtain rfl := hw'.symm; clear hw')
        go_ret3
        exact ⟨HB.out, .inr ⟨j, HRJ.out.symm, rfl⟩⟩
      | some q =>
        obtain ⟨v, k⟩ := q
        rw [hm] at hRj
        dsimp only at hRj
        have HC := Nu.hid (HY.out wr HB.out j v k hj hm)
        obtain ⟨-, -, hk1, hkn⟩ := Ce.num_is hj hm
        have hk2 := Ce.dg_some v
        have hkj : j < k := by omega
        clear hm hk1 hk2
        have hcell : ∀ hd, l.headD 0 = hd → 0 < l.length → ∃ lb, lo = some ⟨lb, 0, none⟩ ∧ wr.cell? ⟨lb, 0, none⟩ = some (.int .i64 hd) := fun hd hhd h0 => by
          obtain ⟨b, o, e, hc⟩ := hat 0 hd (by cases l with | nil => cases h0 | cons a l => cases hhd; rfl)
          obtain ⟨_, hr, _⟩ : ∃ lb, lo = some ⟨lb, 0, none⟩ ∧ True := by
            have h1 := HO.out
            rcases h1.2 with ⟨h2, _⟩ | ⟨g, cp, cur, h2, _⟩
            · rw [(Value.slice.inj h2).1] at e; cases e
            · exact ⟨g, (Value.slice.inj h2).1, trivial⟩
          rw [hr] at e ⊢
          cases e
          exact ⟨_, rfl, hc⟩
        have hl0 : l ≠ [] ↔ 0 < l.length := by cases l <;> simp
        clear hat
        by_cases hh : l ≠ [] ∧ v < l.headD 0
        · rw [if_pos hh] at hRj
          obtain ⟨hd, hhd⟩ : ∃ hd, l.headD 0 = hd := ⟨_, rfl⟩
          obtain ⟨lb, rfl, c0⟩ := hcell hd hhd (hl0.1 hh.1)
          have h0 : (0 : Int) < (l.length : Int) := by have := hl0.1 hh.1; omega
          have hlt : v < hd := by rw [← hhd]; exact hh.2
          have HRJ := Nu.hid hRj
          clear hh hRj hcell hl0 hhd
          go_wp2_with (go_at_call 15; refine HC.out.mono ?_; rintro e w' ⟨rfl, hw'⟩; obtain rfl := hw'.symm; clear hw')
          go_ret3
          exact ⟨HB.out, .inr ⟨j, HRJ.out.symm, rfl⟩⟩
        · rw [if_neg hh] at hRj
          obtain ⟨x2, hx2⟩ : ∃ x2, B k = x2 := ⟨_, rfl⟩
          have HKN : Hid (x2 = 32 → k < n) := fun e => Ce.in_of HT.out (hx2.trans e) (by decide)
          rw [hx2] at hRj
          have HXX := Nu.hid hx2
          clear hx2
          by_cases c10 : x2 = 10
          · have e10 : (x2 == 10) = true := by simp [c10]
            rw [if_pos c10] at hRj
            have HRJ := Nu.hid hRj
            clear hRj c10
            by_cases h0 : 0 < l.length
            · obtain ⟨hd, hhd⟩ : ∃ hd, l.headD 0 = hd := ⟨_, rfl⟩
              obtain ⟨lb, rfl, c0⟩ := hcell hd hhd h0
              have h0i : (0 : Int) < (l.length : Int) := by omega
              have hlt : ¬ v < hd := fun q => hh ⟨hl0.2 h0, by rw [hhd]; exact q⟩
              clear hh hcell hl0 hhd
              go_wp2_with (first
                | (go_at_call 15; refine HC.out.mono ?_; rintro e w' ⟨rfl, hw'⟩; obtain rfl := hw'.symm; clear hw')
                | (at_builtin; refine wpList_push rfl _ _ rfl wr w.heap.size (.slice (some ⟨lb, 0, none⟩) l.length lc) l v HO.out hsz (by omega) rfl rfl ?_; refine Hid.out ?_))
              refine Nu.hid ?_
              intro v2 w2 ho2 _ _ hb2
              have HB2 := Nu.hid (HB.out.trans hb2)
              have HX2 : Hid (Calls Tryd.prog 14 #[.slice ao n cap, .int .i64 (k : Int)] w2 fun e w' => e = .returned (.int .i64 x2) ∧ w' = w2) := by rw [← HXX.out]; exact HA.out w2 HB2.out k hkn
              obtain ⟨o2, c2, rfl, -, -⟩ := ho2.form
              rw [List.length_append, List.length_singleton] at ho2 ⊢
              have HO2 := Nu.hid ho2
              clear ho2 hb2
              go_wp2_with (go_at_call 14; refine HX2.out.mono ?_; rintro e w' ⟨rfl, hw'⟩; obtain rfl := hw'.symm; clear hw')
              go_ret3
              exact ⟨HB2.out, .inl ⟨l ++ [v], k + 1, _, HRJ.out.symm, rfl, HO2.out⟩⟩
            · have h0i : ¬ ((0 : Int) < (l.length : Int)) := by omega
              clear hh hcell hl0
              go_wp2_with (first
                | (go_at_call 15; refine HC.out.mono ?_; rintro e w' ⟨rfl, hw'⟩; obtain rfl := hw'.symm; clear hw')
                | (at_builtin; refine wpList_push rfl _ _ rfl wr w.heap.size (.slice lo l.length lc) l v HO.out hsz (by omega) rfl rfl ?_; refine Hid.out ?_))
              refine Nu.hid ?_
              intro v2 w2 ho2 _ _ hb2
              have HB2 := Nu.hid (HB.out.trans hb2)
              have HX2 : Hid (Calls Tryd.prog 14 #[.slice ao n cap, .int .i64 (k : Int)] w2 fun e w' => e = .returned (.int .i64 x2) ∧ w' = w2) := by rw [← HXX.out]; exact HA.out w2 HB2.out k hkn
              obtain ⟨o2, c2, rfl, -, -⟩ := ho2.form
              rw [List.length_append, List.length_singleton] at ho2 ⊢
              have HO2 := Nu.hid ho2
              clear ho2 hb2
              go_wp2_with (go_at_call 14; refine HX2.out.mono ?_; rintro e w' ⟨rfl, hw'⟩; obtain rfl := hw'.symm; clear hw')
              go_ret3
              exact ⟨HB2.out, .inl ⟨l ++ [v], k + 1, _, HRJ.out.symm, rfl, HO2.out⟩⟩
          · have e10 : (x2 == 10) = false := by simp [c10]
            rw [if_neg c10] at hRj
            by_cases c32 : x2 = 32
            · have e32 : (x2 != 32) = false := by simp [c32]
              rw [if_pos c32] at hRj
              have HRJ := Nu.hid hRj
              have HKN := Nu.hid (HKN.out c32)
              clear hRj c10 c32
              by_cases h0 : 0 < l.length
              · obtain ⟨hd, hhd⟩ : ∃ hd, l.headD 0 = hd := ⟨_, rfl⟩
                obtain ⟨lb, rfl, c0⟩ := hcell hd hhd h0
                have h0i : (0 : Int) < (l.length : Int) := by omega
                have hlt : ¬ v < hd := fun q => hh ⟨hl0.2 h0, by rw [hhd]; exact q⟩
                clear hh hcell hl0 hhd
                go_wp2_with (first
                  | (go_at_call 15; refine HC.out.mono ?_; rintro e w' ⟨rfl, hw'⟩; obtain rfl := hw'.symm; clear hw')
                  | (at_builtin; refine wpList_push rfl _ _ rfl wr w.heap.size (.slice (some ⟨lb, 0, none⟩) l.length lc) l v HO.out hsz (by omega) rfl rfl ?_; refine Hid.out ?_))
                refine Nu.hid ?_
                intro v2 w2 ho2 _ _ hb2
                have HB2 := Nu.hid (HB.out.trans hb2)
                have HX2 : Hid (Calls Tryd.prog 14 #[.slice ao n cap, .int .i64 (k : Int)] w2 fun e w' => e = .returned (.int .i64 x2) ∧ w' = w2) := by rw [← HXX.out]; exact HA.out w2 HB2.out k hkn
                obtain ⟨o2, c2, rfl, -, -⟩ := ho2.form
                rw [List.length_append, List.length_singleton] at ho2 ⊢
                have HO2 := Nu.hid ho2
                clear ho2 hb2
                go_wp2_with (go_at_call 14; refine HX2.out.mono ?_; rintro e w' ⟨rfl, hw'⟩; obtain rfl := hw'.symm; clear hw')
                go_roundw
                case rel => exact ⟨k + 1, f, l ++ [v], by have := HKN.out; omega, by omega, by rw [List.length_append, List.length_singleton]; omega, by go_num, HO2.out, HB2.out, HRJ.out⟩
                case measure => simp [intOf]; omega
              · have h0i : ¬ ((0 : Int) < (l.length : Int)) := by omega
                clear hh hcell hl0
                go_wp2_with (first
                  | (go_at_call 15; refine HC.out.mono ?_; rintro e w' ⟨rfl, hw'⟩; obtain rfl := hw'.symm; clear hw')
                  | (at_builtin; refine wpList_push rfl _ _ rfl wr w.heap.size (.slice lo l.length lc) l v HO.out hsz (by omega) rfl rfl ?_; refine Hid.out ?_))
                refine Nu.hid ?_
                intro v2 w2 ho2 _ _ hb2
                have HB2 := Nu.hid (HB.out.trans hb2)
                have HX2 : Hid (Calls Tryd.prog 14 #[.slice ao n cap, .int .i64 (k : Int)] w2 fun e w' => e = .returned (.int .i64 x2) ∧ w' = w2) := by rw [← HXX.out]; exact HA.out w2 HB2.out k hkn
                obtain ⟨o2, c2, rfl, -, -⟩ := ho2.form
                rw [List.length_append, List.length_singleton] at ho2 ⊢
                have HO2 := Nu.hid ho2
                clear ho2 hb2
                go_wp2_with (go_at_call 14; refine HX2.out.mono ?_; rintro e w' ⟨rfl, hw'⟩; obtain rfl := hw'.symm; clear hw')
                go_roundw
                case rel => exact ⟨k + 1, f, l ++ [v], by have := HKN.out; omega, by omega, by rw [List.length_append, List.length_singleton]; omega, by go_num, HO2.out, HB2.out, HRJ.out⟩
                case measure => simp [intOf]; omega
            · have e32 : (x2 != 32) = true := by simp [c32]
              rw [if_neg c32] at hRj
              have HRJ := Nu.hid hRj
              clear hRj c10 c32
              by_cases h0 : 0 < l.length
              · obtain ⟨hd, hhd⟩ : ∃ hd, l.headD 0 = hd := ⟨_, rfl⟩
                obtain ⟨lb, rfl, c0⟩ := hcell hd hhd h0
                have h0i : (0 : Int) < (l.length : Int) := by omega
                have hlt : ¬ v < hd := fun q => hh ⟨hl0.2 h0, by rw [hhd]; exact q⟩
                clear hh hcell hl0 hhd
                go_wp2_with (first
                  | (go_at_call 15; refine HC.out.mono ?_; rintro e w' ⟨rfl, hw'⟩; obtain rfl := hw'.symm; clear hw')
                  | (at_builtin; refine wpList_push rfl _ _ rfl wr w.heap.size (.slice (some ⟨lb, 0, none⟩) l.length lc) l v HO.out hsz (by omega) rfl rfl ?_; refine Hid.out ?_))
                refine Nu.hid ?_
                intro v2 w2 ho2 _ _ hb2
                have HB2 := Nu.hid (HB.out.trans hb2)
                have HX2 : Hid (Calls Tryd.prog 14 #[.slice ao n cap, .int .i64 (k : Int)] w2 fun e w' => e = .returned (.int .i64 x2) ∧ w' = w2) := by rw [← HXX.out]; exact HA.out w2 HB2.out k hkn
                obtain ⟨o2, c2, rfl, -, -⟩ := ho2.form
                rw [List.length_append, List.length_singleton] at ho2 ⊢
                have HO2 := Nu.hid ho2
                clear ho2 hb2
                go_wp2_with (go_at_call 14; refine HX2.out.mono ?_; rintro e w' ⟨rfl, hw'⟩; obtain rfl := hw'.symm; clear hw')
                go_ret3
                exact ⟨HB2.out, .inr ⟨k, HRJ.out.symm, rfl⟩⟩
              · have h0i : ¬ ((0 : Int) < (l.length : Int)) := by omega
                clear hh hcell hl0
                go_wp2_with (first
                  | (go_at_call 15; refine HC.out.mono ?_; rintro e w' ⟨rfl, hw'⟩; obtain rfl := hw'.symm; clear hw')
                  | (at_builtin; refine wpList_push rfl _ _ rfl wr w.heap.size (.slice lo l.length lc) l v HO.out hsz (by omega) rfl rfl ?_; refine Hid.out ?_))
                refine Nu.hid ?_
                intro v2 w2 ho2 _ _ hb2
                have HB2 := Nu.hid (HB.out.trans hb2)
                have HX2 : Hid (Calls Tryd.prog 14 #[.slice ao n cap, .int .i64 (k : Int)] w2 fun e w' => e = .returned (.int .i64 x2) ∧ w' = w2) := by rw [← HXX.out]; exact HA.out w2 HB2.out k hkn
                obtain ⟨o2, c2, rfl, -, -⟩ := ho2.form
                rw [List.length_append, List.length_singleton] at ho2 ⊢
                have HO2 := Nu.hid ho2
                clear ho2 hb2
                go_wp2_with (go_at_call 14; refine HX2.out.mono ?_; rintro e w' ⟨rfl, hw'⟩; obtain rfl := hw'.symm; clear hw')
                go_ret3
                exact ⟨HB2.out, .inr ⟨k, HRJ.out.symm, rfl⟩⟩
end Go.Proofs.YtodlejemkihjnaaDoor
