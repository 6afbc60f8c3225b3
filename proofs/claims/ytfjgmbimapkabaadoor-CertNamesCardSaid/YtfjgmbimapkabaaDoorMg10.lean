import Derived.Test.YtfjgmbimapkabaaDoorMg08
/-
  The document's own list: a line of numbers.
-/
namespace Go.Proofs.YtfjgmbimapkabaaDoor
open Go.RowKit

/-- What a line's reading answers. -/
def LstP (R : Except Nat (List Int × Nat)) (w : World) (e : Ending) (w' : World) : Prop :=
  Below w.heap.size w w' ∧ ((∃ l k v, R = .ok (l, k) ∧ e = .returned (.tuple #[v, .int .i64 ((k : Nat) : Int), .int .i64 (-1)]) ∧ OwnZ w' w.heap.size v l) ∨ ∃ p : Nat, R = .error p ∧ e = .returned (.tuple #[.slice none 0 0, .int .i64 0, .int .i64 (p : Int)]))

theorem HasText.eqs {w : World} {ao : Option Addr} {n cap : Nat} {g : Nat → Int} (h : HasText w ao n g) (hn : n ≤ 33554432) :
    (∀ W, Below w.heap.size w W → ∀ i : Nat, i ≤ n → Calls Tryd.prog 23 #[.slice ao n cap, .int .i64 (i : Int)] W fun e w' => e = .returned (.int .i64 (Ce.atF n g i)) ∧ w' = W) ∧
    (∀ W, Below w.heap.size w W → ∀ (i : Nat) (v : Int) (k : Nat), i ≤ n → Ce.num (Ce.atF n g) n i = some (v, k) → Calls Tryd.prog 24 #[.slice ao n cap, .int .i64 (i : Int)] W fun e w' => e = .returned (.tuple #[.int .i64 v, .int .i64 (k : Int), .bool true]) ∧ w' = W) ∧
    (∀ i : Nat, i ≤ n → Ce.num (Ce.atF n g) n i = none → ∃ v k : Int, ∀ W, Below w.heap.size w W → Calls Tryd.prog 24 #[.slice ao n cap, .int .i64 (i : Int)] W fun e w' => e = .returned (.tuple #[.int .i64 v, .int .i64 k, .bool false]) ∧ w' = W) :=
  ⟨fun W hW i hi => rat17_any (h.later hW) i (by omega), fun W hW i v k hi hm => rdig17_yes (h.later hW) (by omega) hi hm, fun i hi hm => by
    obtain ⟨v, k, hc⟩ := rdig17_no (ao := ao) (cap := cap) (by omega) hi hm
    exact ⟨v, k, fun W hW => hc W (h.later hW)⟩⟩

set_option maxRecDepth 100000 in
set_option maxHeartbeats 4000000 in
theorem rlist17_any {ao : Option Addr} {n cap : Nat} {g : Nat → Int} {w : World} (h : HasText w ao n g) (hn : n ≤ 33554432) (i : Nat) (hi : i ≤ n) :
    Calls Tryd.prog 25 #[.slice ao n cap, .int .i64 (i : Int)] w (LstP (Ce.lst (Ce.atF n g) n i) w) := by
  obtain ⟨hA, hY, hN⟩ := h.eqs (cap := cap) hn
  have hT := h.txt
  obtain ⟨B, hB⟩ : ∃ B, Ce.atF n g = B := ⟨_, rfl⟩
  rw [hB] at hA hY hN hT ⊢
  have HA := Nu.hid hA
  have HY := Nu.hid hY
  have HN := Nu.hid hN
  have HT := Nu.hid hT
  obtain ⟨R, hR⟩ : ∃ R, Ce.lst B n i = R := ⟨_, rfl⟩
  rw [hR]
  obtain ⟨x, hx⟩ : ∃ x, B i = x := ⟨_, rfl⟩
  have HX : Hid (Calls Tryd.prog 23 #[.slice ao n cap, .int .i64 (i : Int)] w fun e w' => e = .returned (.int .i64 x) ∧ w' = w) := by rw [← hx]; exact hA w (Below.refl _ _) i hi
  unfold Ce.lst at hR
  rw [hx] at hR
  clear h hA hY hN hT hB hx
  by_cases h10 : x = 10
  · have hb : (x == 10) = true := by simp [h10]
    rw [if_pos h10] at hR
    have HR := Nu.hid hR
    clear hR h10
    go_enter Tryd.func25, Tryd.ntmps25
    go_wp2_with (go_at_call 23; refine HX.out.mono ?_; rintro e w' ⟨rfl, hw'⟩; obtain rfl := hw'.symm; clear hw')
    go_ret3
    exact ⟨Below.refl _ _, .inl ⟨[], i + 1, _, HR.out.symm, by first | rfl | (rw [show ((i + 1 : Nat) : Int) = (i : Int) + 1 by omega]), OwnZ.nil _ _⟩⟩
  · have hb : (x == 10) = false := by simp [h10]
    rw [if_neg h10] at hR
    have HR := Nu.hid hR
    clear hR h10
    go_enter Tryd.func25, Tryd.ntmps25
    go_wp2_with (go_at_call 23; refine HX.out.mono ?_; rintro e w' ⟨rfl, hw'⟩; obtain rfl := hw'.symm; clear hw')
    go_loopw [1, 7] (fun iv lv wr => ∃ (j f : Nat) (l : List Int), j ≤ n ∧ n - j < f ∧ l.length ≤ j ∧ iv = .int .i64 (j : Int) ∧ OwnZ wr w.heap.size lv l ∧ Below w.heap.size w wr ∧ Ce.lstF B n f l j = R) (fun iv _ _ => n - (intOf iv).toNat)
    case atStart => exact ⟨i, n + 1, [], hi, by omega, Nat.zero_le _, rfl, OwnZ.nil _ _, Below.refl _ _, HR.out⟩
    case round =>
      obtain ⟨j, f, l, hj, hf, hlj, rfl, hown, hbw, hRj⟩ := hrel
      obtain ⟨f, rfl⟩ : ∃ f', f = f' + 1 := ⟨f - 1, by omega⟩
      unfold Ce.lstF at hRj
      obtain ⟨lo, lc, rfl, hat, -⟩ := hown.form
      have HO := Nu.hid hown
      have HB := Nu.hid hbw
      have hsz := hbw.size
      clear hown hbw HR
      cases hm : Ce.num B n j with
      | none =>
        rw [hm] at hRj
        obtain ⟨v, k, hc⟩ := HN.out j hj hm
        have HC := Nu.hid (hc wr HB.out)
        have HRJ := Nu.hid hRj
        clear hm hRj hc hat
        go_wp2_with (go_at_call 24; refine HC.out.mono ?_; rintro e w' ⟨rfl, hw'⟩; obtain rfl := hw'.symm; clear hw')
        go_ret3
        exact ⟨HB.out, .inr ⟨j, HRJ.out.symm, rfl⟩⟩
      | some q =>
        obtain ⟨v, k⟩ := q
        rw [hm] at hRj
        dsimp only at hRj
        have HC := Nu.hid (HY.out wr HB.out j v k hj hm)
        obtain ⟨-, -, hk1, hkn⟩ := Ce.num_is hj hm
        have hk2 := Ce.dg_some v
        have hkj : j < k := by omega
        clear hm hk1 hk2
        have hcell : ∀ hd, l.headD 0 = hd → 0 < l.length → ∃ lb, lo = some ⟨lb, 0, none⟩ ∧ wr.cell? ⟨lb, 0, none⟩ = some (.int .i64 hd) := fun hd hhd h0 => by
          obtain ⟨b, o, e, hc⟩ := hat 0 hd (by cases l with | nil => cases h0 | cons a l => cases hhd; rfl)
          obtain ⟨_, hr, _⟩ : ∃ lb, lo = some ⟨lb, 0, none⟩ ∧ True := by
            have h1 := HO.out
            rcases h1.2 with ⟨h2, _⟩ | ⟨g, cp, cur, h2, _⟩
            · rw [(Value.slice.inj h2).1] at e; cases e
            · exact ⟨g, (Value.slice.inj h2).1, trivial⟩
          rw [hr] at e ⊢
          cases e
          exact ⟨_, rfl, hc⟩
        have hl0 : l ≠ [] ↔ 0 < l.length := by cases l <;> simp
        clear hat
        by_cases hh : l ≠ [] ∧ v < l.headD 0
        · rw [if_pos hh] at hRj
          obtain ⟨hd, hhd⟩ : ∃ hd, l.headD 0 = hd := ⟨_, rfl⟩
          obtain ⟨lb, rfl, c0⟩ := hcell hd hhd (hl0.1 hh.1)
          have h0 : (0 : Int) < (l.length : Int) := by have := hl0.1 hh.1; omega
          have hlt : v < hd := by rw [← hhd]; exact hh.2
          have HRJ := Nu.hid hRj
          clear hh hRj hcell hl0 hhd
          go_wp2_with (go_at_call 24; refine HC.out.mono ?_; rintro e w' ⟨rfl, hw'⟩; obtain rfl := hw'.symm; clear hw')
          go_ret3
          exact ⟨HB.out, .inr ⟨j, HRJ.out.symm, rfl⟩⟩
        · rw [if_neg hh] at hRj
          obtain ⟨x2, hx2⟩ : ∃ x2, B k = x2 := ⟨_, rfl⟩
          have HKN : Hid (x2 = 32 → k < n) := fun e => Ce.in_of HT.out (hx2.trans e) (by decide)
          rw [hx2] at hRj
          have HXX := Nu.hid hx2
          clear hx2
          by_cases c10 : x2 = 10
          · have e10 : (x2 == 10) = true := by simp [c10]
            rw [if_pos c10] at hRj
            have HRJ := Nu.hid hRj
            clear hRj c10
            by_cases h0 : 0 < l.length
            · obtain ⟨hd, hhd⟩ : ∃ hd, l.headD 0 = hd := ⟨_, rfl⟩
              obtain ⟨lb, rfl, c0⟩ := hcell hd hhd h0
              have h0i : (0 : Int) < (l.length : Int) := by omega
              have hlt : ¬ v < hd := fun q => hh ⟨hl0.2 h0, by rw [hhd]; exact q⟩
              clear hh hcell hl0 hhd
              go_wp2_with (first
                | (go_at_call 24; refine HC.out.mono ?_; rintro e w' ⟨rfl, hw'⟩; obtain rfl := hw'.symm; clear hw')
                | (at_builtin; refine wpList_push rfl _ _ rfl wr w.heap.size (.slice (some ⟨lb, 0, none⟩) l.length lc) l v HO.out hsz (by omega) rfl rfl ?_; refine Hid.out ?_))
              refine Nu.hid ?_
              intro v2 w2 ho2 _ _ hb2
              have HB2 := Nu.hid (HB.out.trans hb2)
              have HX2 : Hid (Calls Tryd.prog 23 #[.slice ao n cap, .int .i64 (k : Int)] w2 fun e w' => e = .returned (.int .i64 x2) ∧ w' = w2) := by rw [← HXX.out]; exact HA.out w2 HB2.out k hkn
              obtain ⟨o2, c2, rfl, -, -⟩ := ho2.form
              rw [List.length_append, List.length_singleton] at ho2 ⊢
              have HO2 := Nu.hid ho2
              clear ho2 hb2
              go_wp2_with (go_at_call 23; refine HX2.out.mono ?_; rintro e w' ⟨rfl, hw'⟩; obtain rfl := hw'.symm; clear hw')
              go_ret3
              exact ⟨HB2.out, .inl ⟨l ++ [v], k + 1, _, HRJ.out.symm, rfl, HO2.out⟩⟩
            · have h0i : ¬ ((0 : Int) < (l.length : Int)) := by omega
              clear hh hcell hl0
              go_wp2_with (first
                | (go_at_call 24; refine HC.out.mono ?_; rintro e w' ⟨rfl, hw'⟩; obtain rfl := hw'.symm; clear hw')
                | (at_builtin; refine wpList_push rfl _ _ rfl wr w.heap.size (.slice lo l.length lc) l v HO.out hsz (by omega) rfl rfl ?_; refine Hid.out ?_))
              refine Nu.hid ?_
              intro v2 w2 ho2 _ _ hb2
              have HB2 := Nu.hid (HB.out.trans hb2)
              have HX2 : Hid (Calls Tryd.prog 23 #[.slice ao n cap, .int .i64 (k : Int)] w2 fun e w' => e = .returned (.int .i64 x2) ∧ w' = w2) := by rw [← HXX.out]; exact HA.out w2 HB2.out k hkn
              obtain ⟨o2, c2, rfl, -, -⟩ := ho2.form
              rw [List.length_append, List.length_singleton] at ho2 ⊢
              have HO2 := Nu.hid ho2
              clear ho2 hb2
              go_wp2_with (go_at_call 23; refine HX2.out.mono ?_; rintro e w' ⟨rfl, hw'⟩; obtain rfl := hw'.symm; clear hw')
              go_ret3
              exact ⟨HB2.out, .inl ⟨l ++ [v], k + 1, _, HRJ.out.symm, rfl, HO2.out⟩⟩
          · have e10 : (x2 == 10) = false := by simp [c10]
            rw [if_neg c10] at hRj
            by_cases c32 : x2 = 32
            · have e32 : (x2 != 32) = false := by simp [c32]
              rw [if_pos c32] at hRj
              have HRJ := Nu.hid hRj
              have HKN := Nu.hid (HKN.out c32)
              clear hRj c10 c32
              by_cases h0 : 0 < l.length
              · obtain ⟨hd, hhd⟩ : ∃ hd, l.headD 0 = hd := ⟨_, rfl⟩
                obtain ⟨lb, rfl, c0⟩ := hcell hd hhd h0
                have h0i : (0 : Int) < (l.length : Int) := by omega
                have hlt : ¬ v < hd := fun q => hh ⟨hl0.2 h0, by rw [hhd]; exact q⟩
                clear hh hcell hl0 hhd
                go_wp2_with (first
                  | (go_at_call 24; refine HC.out.mono ?_; rintro e w' ⟨rfl, hw'⟩; obtain rfl := hw'.symm; clear hw')
                  | (at_builtin; refine wpList_push rfl _ _ rfl wr w.heap.size (.slice (some ⟨lb, 0, none⟩) l.length lc) l v HO.out hsz (by omega) rfl rfl ?_; refine Hid.out ?_))
                refine Nu.hid ?_
                intro v2 w2 ho2 _ _ hb2
                have HB2 := Nu.hid (HB.out.trans hb2)
                have HX2 : Hid (Calls Tryd.prog 23 #[.slice ao n cap, .int .i64 (k : Int)] w2 fun e w' => e = .returned (.int .i64 x2) ∧ w' = w2) := by rw [← HXX.out]; exact HA.out w2 HB2.out k hkn
                obtain ⟨o2, c2, rfl, -, -⟩ := ho2.form
                rw [List.length_append, List.length_singleton] at ho2 ⊢
                have HO2 := Nu.hid ho2
                clear ho2 hb2
                go_wp2_with (go_at_call 23; refine HX2.out.mono ?_; rintro e w' ⟨rfl, hw'⟩; obtain rfl := hw'.symm; clear hw')
                go_roundw
                case rel => exact ⟨k + 1, f, l ++ [v], by have := HKN.out; omega, by omega, by rw [List.length_append, List.length_singleton]; omega, by go_num, HO2.out, HB2.out, HRJ.out⟩
                case measure => simp [intOf]; omega
              · have h0i : ¬ ((0 : Int) < (l.length : Int)) := by omega
                clear hh hcell hl0
                go_wp2_with (first
                  | (go_at_call 24; refine HC.out.mono ?_; rintro e w' ⟨rfl, hw'⟩; obtain rfl := hw'.symm; clear hw')
                  | (at_builtin; refine wpList_push rfl _ _ rfl wr w.heap.size (.slice lo l.length lc) l v HO.out hsz (by omega) rfl rfl ?_; refine Hid.out ?_))
                refine Nu.hid ?_
                intro v2 w2 ho2 _ _ hb2
                have HB2 := Nu.hid (HB.out.trans hb2)
                have HX2 : Hid (Calls Tryd.prog 23 #[.slice ao n cap, .int .i64 (k : Int)] w2 fun e w' => e = .returned (.int .i64 x2) ∧ w' = w2) := by rw [← HXX.out]; exact HA.out w2 HB2.out k hkn
                obtain ⟨o2, c2, rfl, -, -⟩ := ho2.form
                rw [List.length_append, List.length_singleton] at ho2 ⊢
                have HO2 := Nu.hid ho2
                clear ho2 hb2
                go_wp2_with (go_at_call 23; refine HX2.out.mono ?_; rintro e w' ⟨rfl, hw'⟩; obtain rfl := hw'.symm; clear hw')
                go_roundw
                case rel => exact ⟨k + 1, f, l ++ [v], by have := HKN.out; omega, by omega, by rw [List.length_append, List.length_singleton]; omega, by go_num, HO2.out, HB2.out, HRJ.out⟩
                case measure => simp [intOf]; omega
            · have e32 : (x2 != 32) = true := by simp [c32]
              rw [if_neg c32] at hRj
              have HRJ := Nu.hid hRj
              clear hRj c10 c32
              by_cases h0 : 0 < l.length
              · obtain ⟨hd, hhd⟩ : ∃ hd, l.headD 0 = hd := ⟨_, rfl⟩
                obtain ⟨lb, rfl, c0⟩ := hcell hd hhd h0
                have h0i : (0 : Int) < (l.length : Int) := by omega
                have hlt : ¬ v < hd := fun q => hh ⟨hl0.2 h0, by rw [hhd]; exact q⟩
                clear hh hcell hl0 hhd
                go_wp2_with (first
                  | (go_at_call 24; refine HC.out.mono ?_; rintro e w' ⟨rfl, hw'⟩; obtain rfl := hw'.symm; clear hw')
                  | (at_builtin; refine wpList_push rfl _ _ rfl wr w.heap.size (.slice (some ⟨lb, 0, none⟩) l.length lc) l v HO.out hsz (by omega) rfl rfl ?_; refine Hid.out ?_))
                refine Nu.hid ?_
                intro v2 w2 ho2 _ _ hb2
                have HB2 := Nu.hid (HB.out.trans hb2)
                have HX2 : Hid (Calls Tryd.prog 23 #[.slice ao n cap, .int .i64 (k : Int)] w2 fun e w' => e = .returned (.int .i64 x2) ∧ w' = w2) := by rw [← HXX.out]; exact HA.out w2 HB2.out k hkn
                obtain ⟨o2, c2, rfl, -, -⟩ := ho2.form
                rw [List.length_append, List.length_singleton] at ho2 ⊢
                have HO2 := Nu.hid ho2
                clear ho2 hb2
                go_wp2_with (go_at_call 23; refine HX2.out.mono ?_; rintro e w' ⟨rfl, hw'⟩; obtain rfl := hw'.symm; clear hw')
                go_ret3
                exact ⟨HB2.out, .inr ⟨k, HRJ.out.symm, rfl⟩⟩
              · have h0i : ¬ ((0 : Int) < (l.length : Int)) := by omega
                clear hh hcell hl0
                go_wp2_with (first
                  | (go_at_call 24; refine HC.out.mono ?_; rintro e w' ⟨rfl, hw'⟩; obtain rfl := hw'.symm; clear hw')
                  | (at_builtin; refine wpList_push rfl _ _ rfl wr w.heap.size (.slice lo l.length lc) l v HO.out hsz (by omega) rfl rfl ?_; refine Hid.out ?_))
                refine Nu.hid ?_
                intro v2 w2 ho2 _ _ hb2
                have HB2 := Nu.hid (HB.out.trans hb2)
                have HX2 : Hid (Calls Tryd.prog 23 #[.slice ao n cap, .int .i64 (k : Int)] w2 fun e w' => e = .returned (.int .i64 x2) ∧ w' = w2) := by rw [← HXX.out]; exact HA.out w2 HB2.out k hkn
                obtain ⟨o2, c2, rfl, -, -⟩ := ho2.form
                rw [List.length_append, List.length_singleton] at ho2 ⊢
                have HO2 := Nu.hid ho2
                clear ho2 hb2
                go_wp2_with (go_at_call 23; refine HX2.out.mono ?_; rintro e w' ⟨rfl, hw'⟩; obtain rfl := hw'.symm; clear hw')
                go_ret3
                exact ⟨HB2.out, .inr ⟨k, HRJ.out.symm, rfl⟩⟩
end Go.Proofs.YtfjgmbimapkabaaDoor
