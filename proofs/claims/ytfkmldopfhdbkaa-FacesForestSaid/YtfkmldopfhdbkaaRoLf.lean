/-
  leastFirst: a list turned so that it begins with its first least element.
-/
import Derived.Test.YtfkmldopfhdbkaaRoCc
import Derived.Test.YtfkmldopfhdbkaaMg17
import Derived.Test.YtfkmldopfhdbkaaMg04
namespace Go.Proofs.Ytfkmldopfhdbkaa
open Go.RowKit

/-- A part of a list that lies somewhere. -/
theorem Lst.drop {w : World} {b o n C : Nat} {l : List Int} (h : Lst w (some ⟨b, o, .none⟩) n C l) (k : Nat) : Lst w (some ⟨b, o + k, .none⟩) (n - k) (C - k) (l.drop k) := by
  refine ⟨by rw [List.length_drop, h.len], fun j x hj => ?_, fun e => by cases e⟩
  rw [List.getElem?_drop] at hj
  obtain ⟨b', o', e, hc⟩ := h.ints _ x hj
  cases e
  exact ⟨b, o + k, rfl, by rw [Nat.add_assoc]; exact hc⟩
theorem Lst.take {w : World} {A : Option Addr} {n C : Nat} {l : List Int} (h : Lst w A n C l) {k : Nat} (hk : k ≤ n) : Lst w A k C (l.take k) := by
  refine ⟨by rw [List.length_take, h.len]; omega, fun j x hj => ?_, fun e => ?_⟩
  · rw [List.getElem?_take] at hj
    split at hj
    · exact h.ints j x hj
    · cases hj
  · have := h.none e
    omega

theorem Lst.spot {w : World} {a : Addr} {n C : Nat} {l : List Int} (h : Lst w (some a) n C l) (hn : 0 < n) : ∃ b o, a = ⟨b, o, .none⟩ := by
  obtain ⟨x, hx⟩ : ∃ x, l[0]? = some x := ⟨_, List.getElem?_eq_getElem (by rw [h.len]; exact hn)⟩
  obtain ⟨b, o, e, -⟩ := h.ints 0 x hx
  cases e
  exact ⟨b, o, rfl⟩

theorem Lst.nothing (w : World) : Lst w .none 0 0 [] := ⟨rfl, fun j x hj => by simp at hj, fun _ => ⟨rfl, rfl⟩⟩
theorem RwsAt.drew {w : World} {xo : Option Addr} {ls : List (List Int)} (h : RwsAt w xo ls) : RwsAt w.drew xo ls := h.later (Below.refl _ _).drew

/-- What 'list[q:]' is. -/
theorem Lst.cut {w : World} {a : Addr} {n C q : Nat} {l : List Int} (h : Lst w (some a) n C l) (hq : q ≤ n) (hC : n ≤ C) : Lst w (if C = q then some a else some (a.add q)) (n - q) (C - q) (l.drop q) := by
  by_cases h0 : n = q
  · have e : l.drop q = [] := List.drop_eq_nil_of_le (by rw [h.len]; omega)
    rw [e]
    refine ⟨by simp; omega, fun j x hj => by simp at hj, fun e => ?_⟩
    split at e <;> cases e
  · obtain ⟨b, o, rfl⟩ := h.spot (by omega)
    rw [if_neg (by omega)]
    have ea : ((⟨b, o, .none⟩ : Addr).add q) = ⟨b, o + q, .none⟩ := by
      by_cases h0 : q = 0 <;> simp [Addr.add, h0]
    rw [ea]
    exact h.drop q

/-- Two lists, told in a new block. -/
theorem two_rows {w : World} {A A' : Option Addr} {n n' C C' : Nat} {l l' : List Int} (h : Lst w A n C l) (h' : Lst w A' n' C' l') (hn : n ≤ 17592186043904) (hn' : n' ≤ 17592186043904) (hC : n ≤ C) (hC' : n' ≤ C') (hD : C ≤ 9223372036854775807) (hD' : C' ≤ 9223372036854775807) :
    RwsAt (w.alloc (.cells #[.slice A n C, .slice A' n' C'] 36)) (some ⟨w.heap.size, 0, none⟩) [l, l'] := by
  have hb : Below w.heap.size w (w.alloc (.cells #[.slice A n C, .slice A' n' C'] 36)) := (Below.refl _ _).alloc (Nat.le_refl _) _
  obtain ⟨c0, c1, -⟩ := pair_cells (heap_alloc_new w (.cells #[.slice A n C, .slice A' n' C'] 36))
  have e := h.len
  have e' := h'.len
  subst e
  subst e'
  intro v m hm
  match v, hm with
  | 0, hm =>
    simp at hm
    subst hm
    exact ⟨_, _, A, C, rfl, c0, h.later hb, hn, hC, hD⟩
  | 1, hm =>
    simp at hm
    subst hm
    exact ⟨_, _, A', C', rfl, c1, h'.later hb, hn', hC', hD'⟩

set_option maxRecDepth 100000 in
set_option maxHeartbeats 8000000 in
theorem leastFirst_any (ao : Option Addr) (ca n : Nat) (l : List Int) (w : World) (hL : Lst w ao n ca l) (hn : n ≤ 17592186043904) (hca : n ≤ ca) (hcb : ca ≤ 9223372036854775807) :
    Calls Try.prog 45 #[.slice ao n ca] w (ListPost (Ro.canon1 l) w) := by
  have HL := Nu.hid hL
  have hll := hL.len
  have HLL := Nu.hid hll
  clear hL hll
  go_enter Try.func45, Try.ntmps45
  go_wp2
  go_loopw [3, 8] (fun c d wr => ∃ k : Nat, k ≤ n ∧ d = .int .i64 (k : Int) ∧ c = .int .i64 (Ro.at' l k : Int) ∧ wr = w) (fun _ d _ => n - (intOf d).toNat)
  case atStart => exact ⟨0, Nat.zero_le _, rfl, rfl, rfl⟩
  case round =>
    obtain ⟨k, hk, rfl, rfl, hw⟩ := hrel
    obtain rfl := hw.symm
    clear hw
    by_cases hlt : k < n
    · have hlti : (k : Int) < (n : Int) := by omega
      have hk0 : (0 : Int) ≤ (k : Int) := by omega
      obtain ⟨x, hx⟩ : ∃ x, l[k]? = some x := ⟨_, List.getElem?_eq_getElem (by have := HLL.out; omega)⟩
      have hal := Ro.at_le l k
      obtain ⟨q, hq⟩ : ∃ q, q = Ro.at' l k := ⟨_, rfl⟩
      have hqn : q < n := by omega
      obtain ⟨y, hy⟩ : ∃ y, l[q]? = some y := ⟨_, List.getElem?_eq_getElem (by have := HLL.out; omega)⟩
      obtain ⟨b, o, rfl, c0⟩ := HL.out.elem hx
      obtain ⟨b', o', e, c1⟩ := HL.out.elem hy
      cases e
      have hstep : Ro.at' l (k + 1) = if x < y then k else q := by
        show (if l.getD k 0 < l.getD (Ro.at' l k) 0 then k else Ro.at' l k) = _
        rw [← hq, List.getD_eq_getElem?_getD, List.getD_eq_getElem?_getD, hx, hy]
        rfl
      rw [← hq]
      have hq0 : (0 : Int) ≤ (q : Int) := by omega
      have hqn2 : (q : Int) < (n : Int) := by omega
      by_cases hxy : x < y
      · have HS : Hid (Ro.at' l (k + 1) = k) := by show _ = _; rw [hstep, if_pos hxy]
        clear hstep hq hx hy hal
        go_wp2
        go_roundw
        case rel => exact ⟨k + 1, by omega, by go_num, by rw [HS.out], by first | rfl | trivial⟩
        case measure => simp [intOf]; omega
      · have HS : Hid (Ro.at' l (k + 1) = q) := by show _ = _; rw [hstep, if_neg hxy]
        clear hstep hq hx hy hal
        go_wp2
        go_roundw
        case rel => exact ⟨k + 1, by omega, by go_num, by rw [HS.out], by first | rfl | trivial⟩
        case measure => simp [intOf]; omega
    · have hlti : ¬ (k : Int) < (n : Int) := by omega
      obtain rfl : k = n := by omega
      have hal := Ro.at_le l k
      have hq : Ro.canon1 l = l.drop (Ro.at' l k) ++ l.take (Ro.at' l k) := by rw [← HLL.out]; rfl
      obtain ⟨q, hqe⟩ : ∃ q, q = Ro.at' l k := ⟨_, rfl⟩
      rw [← hqe] at hq hal ⊢
      have HQ := Nu.hid hq
      clear hq hqe
      have hq0 : ¬ (q : Int) < 0 := by omega
      have hqk : ¬ (k : Int) < (q : Int) := by omega
      have hfl : [l.drop q, l.take q].flatten = Ro.canon1 l := by rw [HQ.out]; simp
      have hfl2 : [l.drop q, l.take q].flatten.length ≤ 17592186044000 := by
        rw [hfl, Ro.canon1_len]
        have := HLL.out
        omega
      have hdl : (l.drop q).length = k - q := by rw [List.length_drop, HLL.out]
      have htl : (l.take q).length = q := by rw [List.length_take, HLL.out]; omega
      have HCC := Nu.hid (fun (xo : Option Addr) (W : World) (hx : RwsAt W xo [l.drop q, l.take q]) => concat_any xo 2 [l.drop q, l.take q] W hx (by simp) hfl2)
      rw [hfl] at HCC
      have HDL := Nu.hid hdl
      have HTL := Nu.hid htl
      clear hfl hfl2 hdl htl
      rcases ao with _ | a
      · obtain ⟨rfl, rfl⟩ := HL.out.none rfl
        obtain rfl : q = 0 := by omega
        have HL0 : Hid (l = []) := List.length_eq_zero_iff.1 HLL.out
        go_wp2_with fail
        go_region_held3 (fun V => Below w.heap.size w V) (first | assumption | exact (Below.refl _ _).drew | exact Below.alloc (by first | assumption | exact (Below.refl _ _).drew) (Below.size (by first | assumption | exact (Below.refl _ _).drew)) _)
          ((go_at_call 63; refine (HCC.out _ _ (two_rows (A := none) (A' := none) (C := 0) (C' := 0) (l := l.drop 0) (l' := l.take 0) (by rw [HL0.out]; exact Lst.nothing _) (by rw [HL0.out]; exact Lst.nothing _) (Nat.zero_le _) (Nat.zero_le _) (Nat.le_refl _) (Nat.le_refl _) (Nat.zero_le _) (Nat.zero_le _)).drew).mono ?_; rintro e V1 ⟨v, rfl, ho, hb1⟩; have hb2 : Below w.heap.size w V1 := Below.trans ((Below.refl w.heap.size w).alloc (Nat.le_refl _) _).drew (hb1.mono (by simp))))
        go_wp2
        go_ret
        exact ⟨_, rfl, ho.lower (by simp), hb2⟩
      · obtain ⟨b, o, sp⟩ := a
        have hT := (two_rows (HL.out.cut hal hca) (HL.out.take hal) (by omega) (by omega) (by omega) (by omega) (by omega) (by omega)).drew
        have hc1 : (ca : Int) - (q : Int) = ((ca - q : Nat) : Int) := by omega
        have hc2 : (k : Int) - (q : Int) = ((k - q : Nat) : Int) := by omega
        have hqc : ¬ (ca : Int) < (q : Int) := by omega
        have hkc : ¬ (ca : Int) < (k : Int) := by omega
        by_cases hcq : ca = q
        · rw [if_pos hcq] at hT
          obtain rfl : q = k := by omega
          obtain rfl : ca = q := hcq
          simp only [Nat.sub_self] at hT hc1 hc2
          have HT := Nu.hid hT
          clear hT hc1 hc2
          go_wp2_with fail
          go_region_held3 (fun V => Below w.heap.size w V) (first | assumption | exact (Below.refl _ _).drew | exact Below.alloc (by first | assumption | exact (Below.refl _ _).drew) (Below.size (by first | assumption | exact (Below.refl _ _).drew)) _)
            ((go_at_call 63; refine (HCC.out _ _ HT.out).mono ?_; rintro e V1 ⟨v, rfl, ho, hb1⟩; have hb2 : Below w.heap.size w V1 := Below.trans ((Below.refl w.heap.size w).alloc (Nat.le_refl _) _).drew (hb1.mono (by simp))))
          go_wp2
          go_ret
          exact ⟨_, rfl, ho.lower (by simp), hb2⟩
        · rw [if_neg hcq] at hT
          have HT := Nu.hid hT
          clear hT
          go_wp2_with fail
          go_region_held3 (fun V => Below w.heap.size w V) (first | assumption | exact (Below.refl _ _).drew | exact Below.alloc (by first | assumption | exact (Below.refl _ _).drew) (Below.size (by first | assumption | exact (Below.refl _ _).drew)) _)
            ((go_at_call 63; refine (HCC.out _ _ HT.out).mono ?_; rintro e V1 ⟨v, rfl, ho, hb1⟩; have hb2 : Below w.heap.size w V1 := Below.trans ((Below.refl w.heap.size w).alloc (Nat.le_refl _) _).drew (hb1.mono (by simp))))
          go_wp2
          go_ret
          exact ⟨_, rfl, ho.lower (by simp), hb2⟩

end Go.Proofs.Ytfkmldopfhdbkaa
