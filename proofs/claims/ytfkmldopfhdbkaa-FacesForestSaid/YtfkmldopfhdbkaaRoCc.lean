/-
  slices.Concat of lists.
-/
import Derived.Test.YtfkmldopfhdbkaaMg10
import Derived.Test.YtfkmldopfhdbkaaExt
namespace Go.Proofs.Ytfkmldopfhdbkaa
open Go.RowKit

theorem Ro.flat_take {ls : List (List Int)} {k : Nat} {l : List Int} (h : ls[k]? = some l) : (ls.take (k + 1)).flatten = (ls.take k).flatten ++ l := by
  rw [List.take_add_one, h]
  simp
theorem Ro.flat_le {ls : List (List Int)} {k : Nat} : (ls.take k).flatten.length ≤ ls.flatten.length := by
  have : ls.flatten = (ls.take k).flatten ++ (ls.drop k).flatten := by rw [← List.flatten_append, List.take_append_drop]
  rw [this, List.length_append]
  omega

set_option maxRecDepth 100000 in
set_option maxHeartbeats 8000000 in
theorem concat_any (xo : Option Addr) (xc : Nat) (ls : List (List Int)) (w : World) (hx : RwsAt w xo ls) (hl : ls.length ≤ 4611686018427387904) (hs : ls.flatten.length ≤ 17592186044000) :
    Calls Try.prog 63 #[.slice xo ls.length xc] w (ListPost ls.flatten w) := by
  obtain ⟨i0, hi, hz0, hz1, hz2⟩ := info_parts Try.infoNum
  have HX := Nu.hid hx
  clear hx
  go_enter Try.func63, Try.ntmps63
  go_wp2
  go_loopw [3, 11] (fun c d wr => ∃ k : Nat, k ≤ ls.length ∧ d = .int .i64 (k : Int) ∧ c = .int .i64 ((ls.take k).flatten.length : Int) ∧ wr = w) (fun _ d _ => ls.length - (intOf d).toNat)
  case atStart => exact ⟨0, Nat.zero_le _, rfl, rfl, rfl⟩
  case round =>
    obtain ⟨k, hk, rfl, rfl, hw⟩ := hrel
    obtain rfl := hw.symm
    clear hw
    by_cases hlt : k < ls.length
    · have hlti : (k : Int) < (ls.length : Int) := by omega
      have hk0 : (0 : Int) ≤ (k : Int) := by omega
      obtain ⟨l, hlk⟩ : ∃ l, ls[k]? = some l := ⟨_, List.getElem?_eq_getElem hlt⟩
      obtain ⟨b, o, A, C, rfl, hc, hL, hln, -⟩ := HX.out k l hlk
      have hfl := Ro.flat_le (ls := ls) (k := k + 1)
      have hft := congrArg List.length (Ro.flat_take hlk)
      rw [List.length_append] at hft
      obtain ⟨q, hq⟩ : ∃ q, q = (ls.take k).flatten.length := ⟨_, rfl⟩
      rw [← hq] at hft ⊢
      have hnn : ¬ ((q : Int) + (l.length : Int) < 0) := by omega
      have hqw : IntKind.i64.wrap ((q : Int) + (l.length : Int)) = (q : Int) + (l.length : Int) := by rw [IntKind.wrap_i64]; omega
      have HFT := Nu.hid hft
      clear hft hfl hq hlk hL
      go_wp2
      go_roundw
      case rel => exact ⟨k + 1, by omega, by go_num, by rw [HFT.out]; simp, by first | rfl | trivial⟩
      case measure => simp [intOf]; omega
    · have hlti : ¬ (k : Int) < (ls.length : Int) := by omega
      obtain rfl : k = ls.length := by omega
      rw [List.take_length]
      obtain ⟨N, hN⟩ : ∃ N, N = ls.flatten.length := ⟨_, rfl⟩
      rw [← hN] at hs ⊢
      have HN := Nu.hid hN
      have HG := Nu.hid (sgrow_any N w (by omega))
      clear hN
      go_wp2_with (go_at_call 76; refine HG.out.mono ?_; refine Hid.out ?_)
      refine Nu.hid ?_
      rintro e w1 ⟨v, rfl, ho, hb⟩
      have HO := Nu.hid ho
      have HB := Nu.hid hb
      clear ho hb
      go_wp2
      go_loopw [6, 27] (fun c d wr => ∃ k : Nat, k ≤ ls.length ∧ d = .int .i64 (k : Int) ∧ OwnZ wr w.heap.size c (ls.take k).flatten ∧ Below w.heap.size w wr) (fun _ d _ => ls.length - (intOf d).toNat)
      case atStart => exact ⟨0, Nat.zero_le _, rfl, HO.out, HB.out⟩
      case round =>
        clear HO HB
        obtain ⟨k, hk, rfl, ho, hb⟩ := hrel
        have HB := Nu.hid hb
        have HO := Nu.hid ho
        by_cases hlt : k < ls.length
        · have hlti : (k : Int) < (ls.length : Int) := by omega
          have hk0 : (0 : Int) ≤ (k : Int) := by omega
          obtain ⟨l, hlk⟩ : ∃ l, ls[k]? = some l := ⟨_, List.getElem?_eq_getElem hlt⟩
          obtain ⟨b, o, A, C, rfl, hc, hL, hln, -⟩ := (HX.out.later hb) k l hlk
          have hfl := Ro.flat_le (ls := ls) (k := k + 1)
          rw [Ro.flat_take hlk, List.length_append, ← HN.out] at hfl
          have HFL := Nu.hid hfl
          have HLK := Nu.hid hlk
          have HL := Nu.hid hL
          have hbs := hb.size
          obtain ⟨p1, hp1⟩ : ∃ p1, l.length = p1 := ⟨_, rfl⟩
          rw [hp1] at hc
          clear hfl hlk hL hb ho
          have HP := Nu.hid hp1
          clear hp1
          go_wp2_with (at_builtin; refine wpList_extend rfl _ _ rfl wr w.heap.size _ _ l HO.out A p1 C (by have := HL.out; rw [HP.out] at this; exact this) hbs (by have := HFL.out; omega) rfl rfl ?_; refine Hid.out ?_)
          refine Nu.hid ?_
          intro v' w' ho' hb'
          have HO' := Nu.hid (show OwnZ w' w.heap.size v' (ls.take (k + 1)).flatten by rw [Ro.flat_take HLK.out]; exact ho')
          have HB' := Nu.hid (HB.out.trans hb')
          clear ho' hb'
          go_wp2
          go_roundw
          case rel => exact ⟨k + 1, by omega, by go_num, HO'.out, HB'.out⟩
          case measure => simp [intOf]; omega
        · have hlti : ¬ (k : Int) < (ls.length : Int) := by omega
          obtain rfl : k = ls.length := by omega
          clear ho hb
          go_wp2
          go_ret
          have h1 := HO.out
          rw [List.take_length] at h1
          exact ⟨_, rfl, h1, HB.out⟩

end Go.Proofs.Ytfkmldopfhdbkaa
