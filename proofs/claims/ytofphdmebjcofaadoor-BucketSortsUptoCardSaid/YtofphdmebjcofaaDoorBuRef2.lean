/-
  The document's own Ranks.
-/
import Derived.Test.YtofphdmebjcofaaDoorBuRef
import Derived.Deep.QuietTactic
import Derived.BigQuiet
namespace Go.Proofs.YtofphdmebjcofaaDoor
open Go.RowKit Go.Sort

/-- What the inner loop has counted at k. -/
def Bu.inn (ks : List Int) (i k : Nat) (x : Int) : Nat := Bu.less (ks.take k) x + (ks.take (min k i)).count x

theorem Bu.inn_end {ks : List Int} {i : Nat} {x : Int} (h : ks[i]? = some x) : Bu.inn ks i ks.length x = Bu.rk ks i := by
  have hi := (List.getElem?_eq_some_iff.1 h).1
  unfold Bu.inn
  rw [Bu.rk_eq h, List.take_length, show min ks.length i = i by omega]

theorem Bu.inn_succ {ks : List Int} {i k : Nat} {x y : Int} (h : ks[k]? = some y) : Bu.inn ks i (k + 1) x = Bu.inn ks i k x + (if y < x ∨ (y = x ∧ k < i) then 1 else 0) := by
  unfold Bu.inn
  rw [Bu.less_take_succ h]
  by_cases hk : k < i
  · rw [show min (k + 1) i = k + 1 by omega, show min k i = k by omega, Bu.count_take_succ h]
    by_cases h1 : y < x
    · rw [if_pos h1, if_neg (by omega), if_pos (.inl h1)]; omega
    · by_cases h2 : y = x
      · rw [if_neg h1, if_pos h2, if_pos (.inr ⟨h2, hk⟩)]; omega
      · rw [if_neg h1, if_neg h2, if_neg (by omega)]; omega
  · rw [show min (k + 1) i = i by omega, show min k i = i by omega]
    by_cases h1 : y < x
    · rw [if_pos h1, if_pos (.inl h1)]; omega
    · rw [if_neg h1, if_neg (by omega)]; omega

theorem Bu.inn_le (ks : List Int) (i k : Nat) (x : Int) : Bu.inn ks i k x ≤ k + k := by
  unfold Bu.inn
  have h1 := Bu.less_le (ks.take k) x
  have h2 : (ks.take (min k i)).count x ≤ (ks.take (min k i)).length := List.count_le_length
  simp at h1 h2
  omega

def RRanksPost (most : Int) (ks : List Int) (w : World) (e : Ending) (w' : World) : Prop :=
  ((Bu.fault most ks ≠ 0 ∧ e = .returned (.tuple #[.slice none 0 0, .int .i64 (Bu.fault most ks)])) ∨
   (Bu.fault most ks = 0 ∧ ∃ v, e = .returned (.tuple #[v, .int .i64 0]) ∧ OwnZ w' w.heap.size v (Bu.ranks ks))) ∧ Below w.heap.size w w'

theorem Bu.ranks_take_succ {ks : List Int} {i : Nat} (h : i < ks.length) : (Bu.ranks ks).take (i + 1) = (Bu.ranks ks).take i ++ [(Bu.rk ks i : Int)] := by rw [List.take_add_one, Bu.ranks_at h]; rfl

set_option maxRecDepth 100000 in
set_option maxHeartbeats 8000000 in
theorem rranks_any (most : Int) (ao : Option Addr) (ca n : Nat) (ks : List Int) (w : World) (hl : n ≤ 17592186043904) (ha : Lst w ao n ca ks) :
    Calls Tryd.prog 9 #[.slice ao n ca, .int .i64 most] w (RRanksPost most ks w) := by
  have HA := Nu.hid ha.ints
  have HN := Nu.hid ha.len
  have hfl := fault_any most ao ca n ks w hl ha
  obtain ⟨sn, hsn⟩ : ∃ sn, Bu.seen most ks = sn := ⟨_, rfl⟩
  rw [hsn] at hfl
  clear ha hsn
  by_cases hf : Bu.fault most ks = 0
  · rw [hf] at hfl
    have HF := Nu.hid hf
    have HFL := Nu.hid hfl
    clear hfl hf
    go_enter Tryd.func9, Tryd.ntmps9
    go_wp2_with (go_at_call 8; refine HFL.out.mono ?_; rintro e w1 ⟨rfl, hw1⟩; obtain rfl := hw1.symm; refine Hid.out ?_)
    refine Nu.hid ?_
    clear HFL
    go_wp2
    go_loopw [8, 9] (fun v c wr => ∃ i : Nat, i ≤ n ∧ c = .int .i64 i ∧ OwnZ wr w.heap.size v ((Bu.ranks ks).take i) ∧ Below w.heap.size w wr) (fun _ c _ => n - (intOf c).toNat)
    case atStart => exact ⟨0, Nat.zero_le _, rfl, OwnZ.nil _ _, Below.refl _ _⟩
    case round =>
      obtain ⟨i, hin, rfl, hown, hb⟩ := hrel
      have HOWN := Nu.hid hown
      have HB := Nu.hid hb
      have hsz := hb.size
      clear hown hb
      by_cases hlt : i < n
      · have hk0 : (0 : Int) ≤ (i : Int) := by omega
        have hk1 : (i : Int) < (n : Int) := by omega
        obtain ⟨x, hx⟩ : ∃ x, ks[i]? = some x := ⟨_, List.getElem?_eq_getElem (by have := HN.out; omega)⟩
        obtain ⟨b, o, rfl, ci⟩ := (HA.out.later HB.out) i x hx
        have HX := Nu.hid hx
        clear hx
        obtain ⟨W0, hW0⟩ : ∃ W0, W0 = wr := ⟨_, rfl⟩
        have HB0 := HB
        have HOWN0 := HOWN
        have hsz0 := hsz
        rw [← hW0] at HB0 HOWN0 hsz0 ci
        rw [← hW0]
        clear HB HOWN hsz hW0
        go_wp2
        go_loopw [10, 11] (fun a c wx => ∃ k : Nat, k ≤ n ∧ c = .int .i64 k ∧ a = .int .i64 (Bu.inn ks i k x : Int) ∧ ∃ q, wx = W0.drewN q) (fun _ c _ => n - (intOf c).toNat)
        case atStart => exact ⟨0, Nat.zero_le _, rfl, by unfold Bu.inn; simp [Bu.less], 0, rfl⟩
        case round =>
          obtain ⟨k, hkn, rfl, rfl, q, rfl⟩ := hrel
          have hil := Bu.inn_le ks i k x
          by_cases hlk : k < n
          · have hj0 : (0 : Int) ≤ (k : Int) := by omega
            have hj1 : (k : Int) < (n : Int) := by omega
            obtain ⟨y, hy⟩ : ∃ y, ks[k]? = some y := ⟨_, List.getElem?_eq_getElem (by have := HN.out; omega)⟩
            obtain ⟨b', o', e', ck⟩ := (HA.out.later HB0.out) k y hy
            cases e'
            have hci : (W0.drewN q).cell? ⟨b, o + i, none⟩ = some (.int .i64 x) := ci
            have hck : (W0.drewN q).cell? ⟨b, o + k, none⟩ = some (.int .i64 y) := ck
            have hs := Bu.inn_succ (i := i) (x := x) hy
            have HS := Nu.hid hs
            obtain ⟨p, hp⟩ : ∃ p, Bu.inn ks i k x = p := ⟨_, rfl⟩
            rw [hp] at HS hil ⊢
            clear hy hs hp
            by_cases h1 : y < x
            · have HS1 : Hid (Bu.inn ks i (k + 1) x = p + 1) := by
                have := HS.out
                rw [if_pos (.inl h1)] at this
                exact this
              clear HS
              go_wp2_with fail
              go_quiet (fail)
              go_wp2
              go_roundw
              case rel => exact ⟨k + 1, by omega, by go_num, by rw [HS1.out]; go_num, q + nq, by first | rfl | trivial⟩
              case measure => simp [intOf]; omega
            · by_cases h2 : y = x
              · have j2 : (y == x) = true := by simp [h2]
                by_cases h3 : k < i
                · have h3i : (k : Int) < (i : Int) := by omega
                  have HS1 : Hid (Bu.inn ks i (k + 1) x = p + 1) := by
                    have := HS.out
                    rw [if_pos (.inr ⟨h2, h3⟩)] at this
                    exact this
                  clear HS h2
                  go_wp2_with fail
                  go_quiet (fail)
                  go_wp2
                  go_roundw
                  case rel => exact ⟨k + 1, by omega, by go_num, by rw [HS1.out]; go_num, q + nq, by first | rfl | trivial⟩
                  case measure => simp [intOf]; omega
                · have h3i : ¬ ((k : Int) < (i : Int)) := by omega
                  have HS1 : Hid (Bu.inn ks i (k + 1) x = p) := by
                    have := HS.out
                    rw [if_neg (by omega)] at this
                    exact this
                  clear HS h2
                  go_wp2_with fail
                  go_quiet (fail)
                  go_wp2
                  go_roundw
                  case rel => exact ⟨k + 1, by omega, by go_num, by rw [HS1.out], q + nq, by first | rfl | trivial⟩
                  case measure => simp [intOf]; omega
              · have j2 : (y == x) = false := by simp [h2]
                have HS1 : Hid (Bu.inn ks i (k + 1) x = p) := by
                  have := HS.out
                  rw [if_neg (by omega)] at this
                  exact this
                clear HS
                go_wp2_with fail
                go_quiet (fail)
                go_wp2
                go_roundw
                case rel => exact ⟨k + 1, by omega, by go_num, by rw [HS1.out], q + nq, by first | rfl | trivial⟩
                case measure => simp [intOf]; omega
          · have hd : ¬ ((k : Int) < (n : Int)) := by omega
            obtain rfl : k = n := by omega
            have he : Bu.inn ks i k x = Bu.rk ks i := by rw [← Bu.inn_end HX.out, HN.out]
            rw [he]
            have HTK := Nu.hid (Bu.ranks_take_succ (ks := ks) (i := i) (by rw [HN.out]; exact hlt))
            have hrl := Bu.rk_lt (ks := ks) (i := i) (by rw [HN.out]; exact hlt)
            rw [HN.out] at hrl
            generalize Bu.rk ks i = p at HTK hrl
            clear he hil
            have HOWN1 : Hid (OwnZ (W0.drewN q) w.heap.size _ ((Bu.ranks ks).take i)) := HOWN0.out.later (below_drewN (Below.refl _ _) q)
            have HB1 := Nu.hid (below_drewN HB0.out q)
            have hsz1 : w.heap.size ≤ (W0.drewN q).heap.size := hsz0
            generalize W0.drewN q = W5 at HOWN1 HB1 hsz1 ⊢
            clear ci HOWN0 HB0 hsz0
            have HLN : Hid (((Bu.ranks ks).take i).length ≤ 17592186044000) := Nat.le_trans (List.length_take_le _ _) (by omega)
            go_wp2_with (at_builtin; refine wpList_push rfl _ _ rfl _ w.heap.size _ ((Bu.ranks ks).take i) (p : Int) HOWN1.out hsz1 HLN.out rfl rfl ?_; refine Hid.out ?_)
            refine Nu.hid ?_
            intro v' w5 ho5 hg5 hat5 hb5
            have HO5 := Nu.hid ho5
            have HB5 := Nu.hid (HB1.out.trans hb5)
            clear ho5 hg5 hat5 hb5
            go_wp2
            go_roundw
            case rel => exact ⟨i + 1, by omega, by go_num, by rw [HTK.out]; exact HO5.out, HB5.out⟩
            case measure => simp [intOf]; omega
      · have hd : ¬ ((i : Int) < (n : Int)) := by omega
        obtain rfl : i = n := by omega
        go_wp2
        go_ret2
        refine ⟨.inr ⟨HF.out, _, rfl, ?_⟩, HB.out⟩
        have := HOWN.out
        rw [List.take_of_length_le (by rw [Bu.ranks_length, HN.out]; omega)] at this
        exact this
  · have HF := Nu.hid hf
    obtain ⟨q, hq⟩ : ∃ q, Bu.fault most ks = q := ⟨_, rfl⟩
    rw [hq] at hfl hf
    have j0 : (q != 0) = true := by simp [hf]
    have HQ := Nu.hid hq
    have HFL := Nu.hid hfl
    clear hfl hq
    go_enter Tryd.func9, Tryd.ntmps9
    go_wp2_with (go_at_call 8; refine HFL.out.mono ?_; rintro e w1 ⟨rfl, hw1⟩; obtain rfl := hw1.symm; refine Hid.out ?_)
    refine Nu.hid ?_
    go_wp2
    go_ret2
    exact ⟨.inl ⟨HF.out, by rw [HQ.out]; rfl⟩, Below.refl _ _⟩

end Go.Proofs.YtofphdmebjcofaaDoor
