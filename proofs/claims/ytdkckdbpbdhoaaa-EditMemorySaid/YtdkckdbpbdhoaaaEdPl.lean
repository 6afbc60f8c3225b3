/-
  By number, its place in a list.
-/
import Derived.Test.YtdkckdbpbdhoaaaEdM
import Derived.Test.YtdkckdbpbdhoaaaMgC
import Derived.Test.YtdkckdbpbdhoaaaMgB
namespace Go.Proofs.Ytdkckdbpbdhoaaa
open Go.RowKit Go.Sort

def PlacesPost (m : Nat) (l : List Int) (w : World) (e : Ending) (w' : World) : Prop :=
  ((Ed.Once (m : Int) l ∧ ∃ g, e = .returned (.tuple #[.slice (some ⟨g, 0, none⟩) m m, .bool true]) ∧ IntsBlk w' g (Ed.pl m l) ∧ w.heap.size ≤ g) ∨ (¬ Ed.Once (m : Int) l ∧ e = .returned (.tuple #[.slice none 0 0, .bool false]))) ∧ Below w.heap.size w w'

theorem Ed.minus_set {m k : Nat} (hk : k < m) : (List.replicate k (-1 : Int) ++ List.replicate (m - k) 0).set k (-1) = List.replicate (k + 1) (-1 : Int) ++ List.replicate (m - (k + 1)) 0 := by
  have e : m - k = (m - (k + 1)) + 1 := by omega
  rw [e, List.replicate_succ, List.set_append_right _ _ (by simp), List.length_replicate, Nat.sub_self, List.set_cons_zero, List.replicate_succ', List.append_assoc]
  rfl

theorem Ed.OnceTo.more {n : Int} {l : List Int} {k : Nat} {x : Int} (h : Ed.OnceTo n l k) (hx : l[k]? = some x) (h0 : 0 ≤ x ∧ x < n) (h1 : ∀ j, j < k → l[j]? ≠ some x) : Ed.OnceTo n l (k + 1) := by
  intro i y hi hy
  by_cases hik : i = k
  · subst hik
    rw [hx] at hy
    cases hy
    exact ⟨h0, h1⟩
  · exact h i y (by omega) hy

set_option maxRecDepth 100000 in
set_option maxHeartbeats 4000000 in
theorem places_any (m : Nat) (lo : Option Addr) (q cap : Nat) (l : List Int) (w : World) (hq : l.length = q) (hat : IntsAt w lo l) (hm : m ≤ 1048576) (hl : q ≤ 4611686018427387904) :
    Calls Try.prog 45 #[.int .i64 (m : Int), .slice lo q cap] w (PlacesPost m l w) := by
  obtain ⟨i0, hi, hz0, hz1, hz2⟩ := info_parts Try.infoNum
  have HAT := Nu.hid hat
  have HQ := Nu.hid hq
  clear hat hq
  unfold PlacesPost
  go_enter Try.func45, Try.ntmps45
  go_wp2_with (at_make; refine wpList_make_full _ rfl _ _ 40 rfl w.heap.size 3 i0 (.int .i64 0) 1 Try.underlying40 hi hz0 hz1 _ _ _ _ m rfl rfl rfl rfl (by rw [hz2]; omega) (by unfold maxLen; omega) (Nat.le_refl _) ?_; refine Hid.out ?_)
  refine Nu.hid ?_
  intro w1 hrow1 hg1
  have HROW1 : Hid (IntsBlk w1 w.heap.size (List.replicate m 0)) := by
    refine ints_of_row (B := w.heap.size) (n := m) ?_
    rw [← made_zeros]
    simpa using hrow1
  have HB1 : Hid (Below w.heap.size w w1) := (Below.refl _ _).grown hg1 (Nat.le_refl _) (fun j hj => by cases hj)
  clear hrow1 hg1
  go_wp2
  go_loopw [14] (fun c wr => ∃ (k : Nat) (L : List Int), k ≤ m ∧ c = .int .i64 k ∧ L = List.replicate k (-1) ++ List.replicate (m - k) 0 ∧ IntsBlk wr w.heap.size L ∧ Below w.heap.size w wr) (fun c _ => m - (intOf c).toNat)
  case atStart => exact ⟨0, _, Nat.zero_le _, rfl, by simp, HROW1.out, HB1.out⟩
  case round =>
    obtain ⟨k, L, hk, rfl, hL, hrow, hb⟩ := hrel
    have HROW := Nu.hid hrow
    have HB := Nu.hid hb
    have HL := Nu.hid hL
    have hs0 := hrow.lt
    by_cases hlt : k < m
    · have hlti : (k : Int) < (m : Int) := by omega
      have hk0 : (0 : Int) ≤ (k : Int) := by omega
      have HT := Nu.hid (Ed.minus_set hlt)
      have hLl : k < L.length := by rw [hL]; simp; omega
      obtain ⟨x, hx⟩ : ∃ x, L[k]? = some x := ⟨_, List.getElem?_eq_getElem hLl⟩
      have x0 := hrow.cell hx
      have f0 := hrow.free k
      have HA2 := Nu.hid (hrow.set k (-1))
      clear hrow hb hL hx
      go_wp2
      go_roundw
      case rel => exact ⟨k + 1, _, by omega, by go_num, by rw [← HT.out, HL.out], HA2.out, HB.out.setCell (by simp) _⟩
      case measure => simp [intOf]; omega
    · have hd : ¬ ((k : Int) < (m : Int)) := by omega
      have hLe : IntsBlk wr w.heap.size (Ed.pls m l 0) := by
        have h1 : m - k = 0 := by omega
        have h2 : k = m := by omega
        rw [hL, h1, h2] at hrow
        simpa [Ed.pls] using hrow
      have HLE := Nu.hid hLe
      clear hrow hb hL hLe
      go_wp2
      go_loopw [23] (fun c wt => ∃ (k : Nat) (L : List Int), k ≤ q ∧ c = .int .i64 k ∧ L = Ed.pls m l k ∧ Ed.OnceTo (m : Int) l k ∧ IntsBlk wt w.heap.size L ∧ Below w.heap.size w wt) (fun c _ => q - (intOf c).toNat)
      case atStart => exact ⟨0, _, Nat.zero_le _, rfl, rfl, fun i x h => by omega, HLE.out, HB.out⟩
      case round =>
        obtain ⟨j, L, hj, rfl, hL, hon, hrow, hb⟩ := hrel
        have HROW := Nu.hid hrow
        have HB := Nu.hid hb
        have HL := Nu.hid hL
        have HON := Nu.hid hon
        have hs0 := hrow.lt
        by_cases hlt : j < q
        · have hlti : (j : Int) < (q : Int) := by omega
          have hj0 : (0 : Int) ≤ (j : Int) := by omega
          have hjl : j < l.length := by rw [HQ.out]; exact hlt
          obtain ⟨x, hx⟩ : ∃ x, l[j]? = some x := ⟨_, List.getElem?_eq_getElem hjl⟩
          obtain ⟨b, o, rfl, c0⟩ := (HAT.out.later hb) j x hx
          have hbl : b < wr.heap.size := block_lt_of_cell c0
          have HX := Nu.hid hx
          clear hb hx hon
          by_cases hin : 0 ≤ x ∧ x < (m : Int)
          · obtain ⟨xv, rfl⟩ : ∃ v : Nat, x = (v : Int) := ⟨x.toNat, by omega⟩
            have hx0 : (0 : Int) ≤ (xv : Int) := by omega
            have hxm : (xv : Int) < (m : Int) := hin.2
            obtain ⟨y, hy⟩ : ∃ y, L[xv]? = some y := ⟨_, List.getElem?_eq_getElem (by rw [hL, Ed.pls_length]; omega)⟩
            have hpa := Ed.pls_at (n := m) (l := l) (k := j) (by omega) HON.out xv y (by rw [← hL]; exact hy)
            have y0 := hrow.cell hy
            have HPA := Nu.hid hpa
            have HIN := Nu.hid hin
            clear hpa hy hin
            by_cases hyn : y = -1
            · have hne : (y != (-1)) = false := by simp [hyn]
              have f0 := hrow.free xv
              have HA2 := Nu.hid (hrow.set xv (j : Int))
              have HYN := Nu.hid hyn
              clear hrow hL hyn
              go_wp2_with (go_at_call 37; refine (isnum_yes hx0 hxm _).mono ?_; rintro e w2 ⟨rfl, rfl⟩)
              go_roundw
              case rel =>
                refine ⟨j + 1, _, by omega, by go_num, ?_, ?_, HA2.out, HB.out.setCell (by simp) _⟩
                · have e : l.getD j 0 = (xv : Int) := by rw [List.getD_eq_getElem?_getD, HX.out]; rfl
                  show _ = (Ed.pls m l j).set _ _
                  rw [e, ← HL.out]
                  rfl
                · refine HON.out.more HX.out HIN.out fun i hi => ?_
                  rcases HPA.out with ⟨_, h⟩ | ⟨i', _, e, _⟩
                  · exact h i hi
                  · rw [HYN.out] at e; omega
              case measure => simp [intOf]; omega
            · have hne : (y != (-1)) = true := by simp [hyn]
              have hno : ¬ Ed.Once (m : Int) l := fun h => by
                rcases HPA.out with ⟨e, _⟩ | ⟨i, hi, e, hli⟩
                · exact hyn e
                · exact (Ed.once_iff.1 h j _ hjl HX.out).2 i hi hli
              have HNO := Nu.hid hno
              clear hrow hL hno hyn
              go_wp2_with (go_at_call 37; refine (isnum_yes hx0 hxm _).mono ?_; rintro e w2 ⟨rfl, rfl⟩)
              go_ret2
              exact ⟨.inr ⟨HNO.out, rfl⟩, HB.out⟩
          · have hno : ¬ Ed.Once (m : Int) l := fun h => hin (h.1 x (List.mem_of_getElem? HX.out))
            have hout : x < 0 ∨ (m : Int) ≤ x := by omega
            have HNO := Nu.hid hno
            have HOUT := Nu.hid hout
            clear hrow hL hno hin hout
            go_wp2_with (go_at_call 37; refine (isnum_no HOUT.out _).mono ?_; rintro e w2 ⟨rfl, rfl⟩)
            go_ret2
            exact ⟨.inr ⟨HNO.out, rfl⟩, HB.out⟩
        · have hd : ¬ ((j : Int) < (q : Int)) := by omega
          have hjq : j = l.length := by rw [HQ.out]; omega
          have hyes : Ed.Once (m : Int) l ∧ L = Ed.pl m l := by
            rw [hjq] at hon hL
            exact ⟨Ed.once_iff.2 hon, hL⟩
          have HYES := Nu.hid hyes
          clear hrow hb hL hyes hon hjq
          go_wp2
          go_ret2
          exact ⟨.inl ⟨HYES.out.1, _, rfl, by rw [← HYES.out.2]; exact HROW.out, Nat.le_refl _⟩, HB.out⟩

end Go.Proofs.Ytdkckdbpbdhoaaa
