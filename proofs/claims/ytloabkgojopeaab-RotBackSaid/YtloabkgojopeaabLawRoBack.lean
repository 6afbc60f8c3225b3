/-
  Proved: for every graph and every two lists of lists the law RotBack answers true, and all read afterwards as before. No condition.
-/
import Derived.Test.YtloabkgojopeaabMg10
import Derived.Test.YtloabkgojopeaabMg16
import Derived.Test.YtloabkgojopeaabMg09
import Derived.Test.YtloabkgojopeaabMg17
import Derived.Test.YtloabkgojopeaabMg18
namespace Go.Proofs.Ytloabkgojopeaab
open Go.ChangeShapes Go.WideShapes Go.ChangeAt Go.RowKit
namespace lawRB

def BoolQ (T : Bool) (W : World) (e : Ending) (w' : World) : Prop := e = .returned (.bool T) ∧ Below W.heap.size W w'
/-- What came in. -/
structure BS (W w : World) (n : Int) (ao : Option Addr) (ca : Nat) (es : List (Int × Int)) (xo : Option Addr) (ls : List (List Int)) (yo : Option Addr) (ms : List (List Int)) : Prop where
  gr : GR W w n ao ca es xo ls
  ry : RwsAt W yo ms
theorem BS.later {W W' w : World} {n : Int} {ao : Option Addr} {ca : Nat} {es : List (Int × Int)} {xo : Option Addr} {ls : List (List Int)} {yo : Option Addr} {ms : List (List Int)} (h : BS W w n ao ca es xo ls yo ms) (hb : Below W.heap.size W W') : BS W' w n ao ca es xo ls yo ms := ⟨h.gr.later hb, h.ry.later hb⟩

theorem hls_get {es : List (Int × Int)} : ∀ {k : Nat} {ls : List (List Int)} {m : List Int}, m ∈ Ro.hls es k ls → ∃ l ∈ ls, m.length = l.length
  | _, [], _, h => by simp [Ro.hls] at h
  | k, l :: ls, m, h => by
    rw [Ro.hls] at h
    rcases List.mem_cons.1 h with rfl | h
    · exact ⟨l, List.mem_cons_self .., by simp⟩
    · obtain ⟨x, hx, e⟩ := hls_get h
      exact ⟨x, List.mem_cons_of_mem _ hx, e⟩

set_option maxRecDepth 100000 in
set_option maxHeartbeats 32000000 in
theorem walk (n : Int) (ao : Option Addr) (ca : Nat) (es : List (Int × Int)) (xo : Option Addr) (xc : Nat) (ls : List (List Int)) (yo : Option Addr) (yc : Nat) (ms : List (List Int)) (w : World) (_ : -9223372036854775808 ≤ n ∧ n ≤ 9223372036854775807) (hq : PairsIn w ao es.length ca es) (hle : es.length * 16 ≤ 140737488351232) (hx : RowsIn w xo ls.length xc ls) (hy : RowsIn w yo ms.length yc ms) :
    Calls Try.prog 3 #[.agg #[.int .i64 n, .slice ao es.length ca], .slice xo ls.length xc, .slice yo ms.length yc] w fun e w' => e = .returned (.bool true) ∧ Below w.heap.size w w' := by
  have hll := hx.hsm
  have hml := hy.hsm
  have hS0 : BS (w.alloc (.cells #[.int .i64 n, .slice ao es.length ca] 24)) w n ao ca es xo ls yo ms := ⟨.start hq.hat hx.hat, hy.hat.later ((Below.refl _ _).alloc (Nat.le_refl _) (.cells #[.int .i64 n, .slice ao es.length ca] 24))⟩
  have HS0 := Nu.hid hS0
  obtain ⟨cc, hcc⟩ : ∃ cc, cc = (Ro.check n es ls).2 := ⟨_, rfl⟩
  obtain ⟨A, hA⟩ : ∃ A, A = Ro.around es ls := ⟨_, rfl⟩
  obtain ⟨H, hH⟩ : ∃ H, H = Ro.hls es 0 ms := ⟨_, rfl⟩
  obtain ⟨fv, hfv⟩ : ∃ fv, fv = (Ro.check n es H).1 := ⟨_, rfl⟩
  obtain ⟨fc, hfc⟩ : ∃ fc, fc = (Ro.check n es H).2 := ⟨_, rfl⟩
  have hrow : ∀ l ∈ ls, l.length ≤ 17592186043904 := fun l hl => by
    obtain ⟨v, hv⟩ := List.mem_iff_getElem?.1 hl
    obtain ⟨_, _, _, _, _, _, _, hln, _⟩ := hx.hat v l hv
    exact hln
  have hrow2 : ∀ l ∈ ms, l.length ≤ 17592186043904 := fun l hl => by
    obtain ⟨v, hv⟩ := List.mem_iff_getElem?.1 hl
    obtain ⟨_, _, _, _, _, _, _, hln, _⟩ := hy.hat v l hv
    exact hln
  have HRA : Hid (∀ l ∈ A, l.length ≤ 17592186043904) := fun m hm => by
    rw [hA] at hm
    obtain ⟨l, hl, rfl⟩ := List.mem_map.1 hm
    rw [Ro.toL_len]
    exact hrow l hl
  have HRH : Hid (∀ l ∈ H, l.length ≤ 17592186043904) := fun m hm => by
    rw [hH] at hm
    obtain ⟨l, hl, e⟩ := hls_get hm
    rw [e]
    exact hrow2 l hl
  have HRL := Nu.hid hrow
  have HRM := Nu.hid hrow2
  have HAL : Hid (A.length = ls.length) := by show _ = _; rw [hA]; simp [Ro.around]
  have HHL : Hid (H.length = ms.length) := by show _ = _; rw [hH, Ro.hls_len]
  have HAR : Hid (∀ W, BS W w n ao ca es xo ls yo ms → Calls Try.prog 8 #[.agg #[.int .i64 n, .slice ao es.length ca], .slice xo ls.length xc] W (AroundQ cc A W)) := by
    rw [hcc, hA]
    exact fun W h => around_any n ao ca es xo xc ls W h.gr.edges (by omega) h.gr.rows
  have HFM : Hid (∀ W, BS W w n ao ca es xo ls yo ms → Calls Try.prog 7 #[.agg #[.int .i64 n, .slice ao es.length ca], .slice yo ms.length yc] W (FromQ fv fc H W)) := by
    rw [hfc, hfv, hH]
    exact fun W h => from_any11 n ao ca es yo yc ms W h.gr.edges (by omega) h.ry
  have HVA : Hid (∀ W, BS W w n ao ca es xo ls yo ms → Calls Try.prog 6 #[.agg #[.int .i64 n, .slice ao es.length ca]] W (BoolQ (Si.valid n es) W)) := fun W h => rvalid_any n ao ca es W h.gr.edges (by omega)
  have HE1 : Hid (∀ W po pc, RwsAt W po ls → BS W w n ao ca es xo ls yo ms → Calls Try.prog 9 #[.slice po ls.length pc, .slice xo ls.length xc] W (BoolQ true W)) := fun W po pc h h2 => by
    have := equal11_any po xo pc xc ls ls W h h2.gr.rows (by omega)
    rw [decide_eq_true rfl] at this
    exact this
  have HE2 : Hid (∀ W po pc, RwsAt W po ms → BS W w n ao ca es xo ls yo ms → Calls Try.prog 9 #[.slice po ms.length pc, .slice yo ms.length yc] W (BoolQ true W)) := fun W po pc h h2 => by
    have := equal11_any po yo pc yc ms ms W h h2.ry (by omega)
    rw [decide_eq_true rfl] at this
    exact this
  cases hv : Si.valid n es with
  | false =>
    rw [hv] at HVA
    have e1 : fc = 1 := by rw [hfc]; simp [Ro.check, hv]
    subst e1
    clear hq hx hy hS0 hcc hA hH hfv hfc hrow hrow2 hv
    go_enter Try.func3, Try.ntmps3
    go_wp2_with (go_at_call 5; refine (fixed11_any _).mono ?_; rintro e w1 ⟨rfl, hb⟩; refine Hid.out ?_)
    refine Nu.hid ?_
    have S1 := Nu.hid (HS0.out.later hb)
    obtain ⟨x0, x1⟩ := S1.out.gr.cells
    clear hb HS0
    go_wp2_with (go_at_call 6; refine (HVA.out _ S1.out).mono ?_; rintro e w2 ⟨rfl, hb⟩; refine Hid.out ?_)
    refine Nu.hid ?_
    have S2 := Nu.hid (S1.out.later hb)
    clear hb S1 x0 x1
    obtain ⟨x0, x1⟩ := S2.out.gr.cells
    go_wp2_with (go_at_call 7; refine (HFM.out _ S2.out).mono ?_; refine Hid.out ?_)
    refine Nu.hid ?_
    rintro e w3 ⟨hb, ⟨-, rfl⟩ | ⟨h, -⟩⟩
    case inr => cases h
    have S3 := Nu.hid (S2.out.later hb).gr.low
    clear hb S2 x0 x1
    go_wp2
    go_ret
    exact ⟨rfl, S3.out⟩
  | true =>
    rw [hv] at HVA
    have hval := Si.valid_iff.1 hv
    have hlo := hval.lo
    obtain ⟨m, rfl⟩ : ∃ m : Nat, n = (m : Int) := ⟨n.toNat, by omega⟩
    have HFA : Hid (cc = 0 → ∀ W po pc, BS W w m ao ca es xo ls yo ms → RwsAt W po A → Calls Try.prog 7 #[.agg #[.int .i64 (m : Int), .slice ao es.length ca], .slice po ls.length pc] W (FromQ 0 0 ls W)) := fun h0 W po pc h h2 => by
      have hrot : Ro.Rot (m : Int) es ls := Ro.check_iff.1 (by rw [← hcc]; exact h0)
      have e : Ro.hls es 0 A = ls := by rw [hA]; exact Ro.hls_around hval hrot
      have e2 : (Ro.check (m : Int) es ls).2 = 0 := by rw [← hcc]; exact h0
      have := from_any11 (m : Int) ao ca es po pc A W h.gr.edges (by omega) h2
      unfold FromP at this
      rw [e, e2, Ro.check_zero e2, HAL.out] at this
      exact this
    have HAH : Hid (fc = 0 → ∀ W po pc, BS W w m ao ca es xo ls yo ms → RwsAt W po H → Calls Try.prog 8 #[.agg #[.int .i64 (m : Int), .slice ao es.length ca], .slice po ms.length pc] W (AroundQ 0 ms W)) := fun h0 W po pc h h2 => by
      have hrot : Ro.Rot (m : Int) es H := Ro.check_iff.1 (by rw [← hfc]; exact h0)
      have e : Ro.around es H = ms := by rw [hH] at hrot ⊢; exact Ro.around_hls hrot
      have e2 : (Ro.check (m : Int) es H).2 = 0 := by rw [← hfc]; exact h0
      have : Calls Try.prog 8 #[.agg #[.int .i64 (m : Int), .slice ao es.length ca], .slice po H.length pc] W (AroundQ (Ro.check (m : Int) es H).2 (Ro.around es H) W) := around_any (m : Int) ao ca es po pc H W h.gr.edges (by omega) h2
      rw [e, e2, HHL.out] at this
      exact this
    have HCH : Hid (fc = 0 → ∀ W po pc, BS W w m ao ca es xo ls yo ms → RwsAt W po H → Calls Try.prog 10 #[.agg #[.int .i64 (m : Int), .slice ao es.length ca], .slice po ms.length pc] W (CkQ 0 0 W)) := fun h0 W po pc h h2 => by
      have e2 : (Ro.check (m : Int) es H).2 = 0 := by rw [← hfc]; exact h0
      have : Calls Try.prog 10 #[.agg #[.int .i64 (m : Int), .slice ao es.length ca], .slice po H.length pc] W (CkQ (Ro.check (m : Int) es H).1 (Ro.check (m : Int) es H).2 W) := rcheck_any (m : Int) ao ca es po pc H W h.gr.edges (by omega) h2
      rw [e2, Ro.check_zero e2, HHL.out] at this
      exact this
    obtain ⟨T, hT⟩ : ∃ T : Bool, T = true ↔ fc = 0 := ⟨decide (fc = 0), by simp⟩
    have HRI : Hid (∀ W, BS W w m ao ca es xo ls yo ms → Calls Try.prog 11 #[.agg #[.int .i64 (m : Int), .slice ao es.length ca], .slice yo ms.length yc] W (BoolQ T W)) := fun W h =>
      (right_any m ao ca es yo yc ms W h.gr.edges hval h.ry).mono fun e w' hr => by
        have hiff : Ro.RightL m es ms ↔ fc = 0 := by
          rw [Ro.right_iff hval, ← Ro.check_iff, ← hH, ← hfc]
        obtain ⟨hb, ⟨h1, rfl⟩ | ⟨h1, rfl⟩⟩ := hr
        · rw [hT.2 (hiff.1 h1)]
          exact ⟨rfl, hb⟩
        · cases T with
          | true => exact absurd (hiff.2 (hT.1 rfl)) h1
          | false => exact ⟨rfl, hb⟩
    have HT := Nu.hid hT
    clear hq hx hy hS0 hcc hA hH hfv hfc hrow hrow2 hv hT hval hlo
    go_enter Try.func3, Try.ntmps3
    go_wp2_with (go_at_call 5; refine (fixed11_any _).mono ?_; rintro e w1 ⟨rfl, hb⟩; refine Hid.out ?_)
    refine Nu.hid ?_
    have S1 := Nu.hid (HS0.out.later hb)
    obtain ⟨x0, x1⟩ := S1.out.gr.cells
    clear hb HS0
    go_wp2_with (go_at_call 6; refine (HVA.out _ S1.out).mono ?_; rintro e w2 ⟨rfl, hb⟩; refine Hid.out ?_)
    refine Nu.hid ?_
    have S2 := Nu.hid (S1.out.later hb)
    clear hb S1 x0 x1 HVA
    obtain ⟨x0, x1⟩ := S2.out.gr.cells
    by_cases hc : cc = 0
    · subst hc
      have HFA' := Nu.hid (HFA.out rfl)
      go_wp2_with (go_at_call 8; refine (HAR.out _ S2.out).mono ?_; refine Hid.out ?_)
      refine Nu.hid ?_
      rintro e w3 ⟨hb, ⟨h, -⟩ | ⟨-, v3, vs3, rfl, hr⟩⟩
      · exact absurd rfl h
      obtain ⟨po, pc, rfl, hp, -⟩ := hr.rws HRA.out
      have S3 := Nu.hid (S2.out.later hb)
      have P3 := Nu.hid hp
      rw [HAL.out]
      clear hb hp hr S2 x0 x1 HFA
      obtain ⟨x0, x1⟩ := S3.out.gr.cells
      go_wp2_with (go_at_call 7; refine (HFA'.out _ _ _ S3.out P3.out).mono ?_; refine Hid.out ?_)
      refine Nu.hid ?_
      rintro e w4 ⟨hb, ⟨h, -⟩ | ⟨-, v4, vs4, rfl, hr⟩⟩
      · exact absurd rfl h
      obtain ⟨qo, qc, rfl, hp, -⟩ := hr.rws HRL.out
      have S4 := Nu.hid (S3.out.later hb)
      have Q4 := Nu.hid hp
      clear hb hp hr S3 P3 x0 x1
      go_wp2_with (go_at_call 9; refine (HE1.out _ _ _ Q4.out S4.out).mono ?_; rintro e w5 ⟨rfl, hb⟩; refine Hid.out ?_)
      refine Nu.hid ?_
      have S5 := Nu.hid (S4.out.later hb)
      clear hb S4 Q4 HFA' HAR HE1
      obtain ⟨x0, x1⟩ := S5.out.gr.cells
      by_cases hf : fc = 0
      · subst hf
        have HAH' := Nu.hid (HAH.out rfl)
        have HCH' := Nu.hid (HCH.out rfl)
        obtain rfl : T = true := HT.out.2 rfl
        go_wp2_with (go_at_call 7; refine (HFM.out _ S5.out).mono ?_; refine Hid.out ?_)
        refine Nu.hid ?_
        rintro e w6 ⟨hb, ⟨h, -⟩ | ⟨-, v6, vs6, rfl, hr⟩⟩
        · exact absurd rfl h
        obtain ⟨so, sc, rfl, hp, -⟩ := hr.rws HRH.out
        have S6 := Nu.hid (S5.out.later hb)
        have R6 := Nu.hid hp
        rw [HHL.out]
        clear hb hp hr S5 x0 x1
        obtain ⟨x0, x1⟩ := S6.out.gr.cells
        go_wp2_with (go_at_call 8; refine (HAH'.out _ _ _ S6.out R6.out).mono ?_; refine Hid.out ?_)
        refine Nu.hid ?_
        rintro e w7 ⟨hb, ⟨h, -⟩ | ⟨-, v7, vs7, rfl, hr⟩⟩
        · exact absurd rfl h
        obtain ⟨to', tc, rfl, hp, -⟩ := hr.rws HRM.out
        have S7 := Nu.hid (S6.out.later hb)
        have R7 := Nu.hid (R6.out.later hb)
        have T7 := Nu.hid hp
        clear hb hp hr S6 R6 x0 x1
        obtain ⟨x0, x1⟩ := S7.out.gr.cells
        go_wp2_with (go_at_call 10; refine (HCH'.out _ _ _ S7.out R7.out).mono ?_; rintro e w8 ⟨rfl, hb⟩; refine Hid.out ?_)
        refine Nu.hid ?_
        have S8 := Nu.hid (S7.out.later hb)
        have T8 := Nu.hid (T7.out.later hb)
        clear hb S7 R7 T7 x0 x1
        go_wp2_with (go_at_call 9; refine (HE2.out _ _ _ T8.out S8.out).mono ?_; rintro e w9 ⟨rfl, hb⟩; refine Hid.out ?_)
        refine Nu.hid ?_
        have S9 := Nu.hid (S8.out.later hb)
        clear hb S8 T8
        obtain ⟨x0, x1⟩ := S9.out.gr.cells
        go_wp2_with (go_at_call 11; refine (HRI.out _ S9.out).mono ?_; rintro e w10 ⟨rfl, hb⟩; refine Hid.out ?_)
        refine Nu.hid ?_
        have S10 := Nu.hid (S9.out.later hb).gr.low
        clear hb S9 x0 x1
        go_wp2
        go_ret
        exact ⟨rfl, S10.out⟩
      · have j1 : (fc == 0) = false := beq_false_of_ne hf
        obtain rfl : T = false := by
          cases T with
          | true => exact absurd (HT.out.1 rfl) hf
          | false => rfl
        go_wp2_with (go_at_call 7; refine (HFM.out _ S5.out).mono ?_; refine Hid.out ?_)
        refine Nu.hid ?_
        rintro e w6 ⟨hb, ⟨-, rfl⟩ | ⟨h, -⟩⟩
        case inr => exact absurd h hf
        have S6 := Nu.hid (S5.out.later hb)
        clear hb S5 x0 x1
        obtain ⟨x0, x1⟩ := S6.out.gr.cells
        go_wp2_with (go_at_call 11; refine (HRI.out _ S6.out).mono ?_; rintro e w10 ⟨rfl, hb⟩; refine Hid.out ?_)
        refine Nu.hid ?_
        have S10 := Nu.hid (S6.out.later hb).gr.low
        clear hb S6 x0 x1
        go_wp2
        go_ret
        exact ⟨rfl, S10.out⟩
    · have j0 : (cc == 0) = false := beq_false_of_ne hc
      go_wp2_with (go_at_call 8; refine (HAR.out _ S2.out).mono ?_; refine Hid.out ?_)
      refine Nu.hid ?_
      rintro e w5 ⟨hb, ⟨-, rfl⟩ | ⟨h, -⟩⟩
      case inr => exact absurd h hc
      have S5 := Nu.hid (S2.out.later hb)
      clear hb S2 x0 x1 HFA HAR HE1
      obtain ⟨x0, x1⟩ := S5.out.gr.cells
      by_cases hf : fc = 0
      · subst hf
        have HAH' := Nu.hid (HAH.out rfl)
        have HCH' := Nu.hid (HCH.out rfl)
        obtain rfl : T = true := HT.out.2 rfl
        go_wp2_with (go_at_call 7; refine (HFM.out _ S5.out).mono ?_; refine Hid.out ?_)
        refine Nu.hid ?_
        rintro e w6 ⟨hb, ⟨h, -⟩ | ⟨-, v6, vs6, rfl, hr⟩⟩
        · exact absurd rfl h
        obtain ⟨so, sc, rfl, hp, -⟩ := hr.rws HRH.out
        have S6 := Nu.hid (S5.out.later hb)
        have R6 := Nu.hid hp
        rw [HHL.out]
        clear hb hp hr S5 x0 x1
        obtain ⟨x0, x1⟩ := S6.out.gr.cells
        go_wp2_with (go_at_call 8; refine (HAH'.out _ _ _ S6.out R6.out).mono ?_; refine Hid.out ?_)
        refine Nu.hid ?_
        rintro e w7 ⟨hb, ⟨h, -⟩ | ⟨-, v7, vs7, rfl, hr⟩⟩
        · exact absurd rfl h
        obtain ⟨to', tc, rfl, hp, -⟩ := hr.rws HRM.out
        have S7 := Nu.hid (S6.out.later hb)
        have R7 := Nu.hid (R6.out.later hb)
        have T7 := Nu.hid hp
        clear hb hp hr S6 R6 x0 x1
        obtain ⟨x0, x1⟩ := S7.out.gr.cells
        go_wp2_with (go_at_call 10; refine (HCH'.out _ _ _ S7.out R7.out).mono ?_; rintro e w8 ⟨rfl, hb⟩; refine Hid.out ?_)
        refine Nu.hid ?_
        have S8 := Nu.hid (S7.out.later hb)
        have T8 := Nu.hid (T7.out.later hb)
        clear hb S7 R7 T7 x0 x1
        go_wp2_with (go_at_call 9; refine (HE2.out _ _ _ T8.out S8.out).mono ?_; rintro e w9 ⟨rfl, hb⟩; refine Hid.out ?_)
        refine Nu.hid ?_
        have S9 := Nu.hid (S8.out.later hb)
        clear hb S8 T8
        obtain ⟨x0, x1⟩ := S9.out.gr.cells
        go_wp2_with (go_at_call 11; refine (HRI.out _ S9.out).mono ?_; rintro e w10 ⟨rfl, hb⟩; refine Hid.out ?_)
        refine Nu.hid ?_
        have S10 := Nu.hid (S9.out.later hb).gr.low
        clear hb S9 x0 x1
        go_wp2
        go_ret
        exact ⟨rfl, S10.out⟩
      · have j1 : (fc == 0) = false := beq_false_of_ne hf
        obtain rfl : T = false := by
          cases T with
          | true => exact absurd (HT.out.1 rfl) hf
          | false => rfl
        go_wp2_with (go_at_call 7; refine (HFM.out _ S5.out).mono ?_; refine Hid.out ?_)
        refine Nu.hid ?_
        rintro e w6 ⟨hb, ⟨-, rfl⟩ | ⟨h, -⟩⟩
        case inr => exact absurd h hf
        have S6 := Nu.hid (S5.out.later hb)
        clear hb S5 x0 x1
        obtain ⟨x0, x1⟩ := S6.out.gr.cells
        go_wp2_with (go_at_call 11; refine (HRI.out _ S6.out).mono ?_; rintro e w10 ⟨rfl, hb⟩; refine Hid.out ?_)
        refine Nu.hid ?_
        have S10 := Nu.hid (S6.out.later hb).gr.low
        clear hb S6 x0 x1
        go_wp2
        go_ret
        exact ⟨rfl, S10.out⟩

set_option maxRecDepth 100000 in
/-- What the walk gives, for every argument and every world. -/
theorem contract (H : Type) (enc : TypeId × Value → H) (W : World) (base : Nat) (args : Array Value) (ds gs : List (DataW H)) (before : List MemPlace)
    (hval : ∀ (j : Nat) t v, Try.f3.params[j]? = some t → args[j]? = some v → Value.okWide Try.prog W .any base t v)
    (hW : DataW.Whole enc Try.prog Try.f3.params.toList Rows.rotBackSpec.vars false W args.toList ds gs before)
    (hsz : (DataW.weightsEach Try.prog (Try.f3.params.toList ++ (OpenSpec.ofChange Rows.rotBackSpec).bare.plain.varTypes Try.prog) (ds ++ gs)).all (· ≤ reachBytes) = true)
    :
    Calls Try.prog 3 args W fun e W' => ∃ v, e = .returned v ∧ Rows.rotBackSpec.post enc Try.prog Try.f3 false true false false W args v W' := by
  have hW' := hW
  obtain ⟨p, q, hA0, hV, rfl, hfz, hnd⟩ := hW
  have hA : DataW.TrodAll enc Try.prog W 0 (fun _ => true) true Try.f3.params.toList args.toList ds p := hA0
  rw [Try.params3] at hA hval hsz
  obtain ⟨v0, vs0, d0, ds0, p0, q0, hargs, rfl, rfl, h0, r0⟩ := trodAll_cons hA
  obtain ⟨v1, vs1, d1, ds1, p1, q1, rfl, rfl, rfl, h1, r1⟩ := trodAll_cons r0
  obtain ⟨v2, vs2, d2, ds2, p2, q2, rfl, rfl, rfl, h2, r2⟩ := trodAll_cons r1
  obtain ⟨rfl, rfl, rfl⟩ := trodAll_nil r2
  obtain rfl : args = #[v0, v1, v2] := by cases args; simp_all
  obtain ⟨rfl, rfl⟩ := trodVars_none hV
  have k0 := h0
  have lt0 : ∀ x ∈ p0, x.block < W.heap.size := by obtain ⟨m, hm⟩ := k0; exact DataW.trod_lt m _ _ _ hm
  obtain ⟨n0, a0, cap0, q0, rfl, x0, w0, u0⟩ := graph_of_trod (j := 0) (hval 0 24 v0 rfl rfl) h0 hsz rfl rfl
  obtain ⟨a1, len1, cap1, rfl⟩ := okWide_slice Try.underlying26 (hval 1 26 v1 rfl rfl)
  have k1 := h1
  have lt1 : ∀ x ∈ p1, x.block < W.heap.size := by obtain ⟨m, hm⟩ := k1; exact DataW.trod_lt m _ _ _ hm
  obtain ⟨q1, w1⟩ := rows_of_trod (j := 1) Try.underlying26 h1 hsz rfl rfl
  have l1 := w1.hlen
  subst l1
  obtain ⟨a2, len2, cap2, rfl⟩ := okWide_slice Try.underlying25 (hval 2 25 v2 rfl rfl)
  have k2 := h2
  have lt2 : ∀ x ∈ p2, x.block < W.heap.size := by obtain ⟨m, hm⟩ := k2; exact DataW.trod_lt m _ _ _ hm
  obtain ⟨q2, w2⟩ := rows_of_trod (j := 2) Try.underlying25 h2 hsz rfl rfl
  have l2 := w2.hlen
  subst l2
  clear hA0
  refine (walk n0 a0 cap0 q0 a1 cap1 q1 a2 cap2 q2 W x0 w0 u0 w1 w2).mono fun e W' ⟨he, bel⟩ => ?_
  subst he
  exact ⟨_, rfl, _, _, _, [], _, [], hW', trodAll_mk1 (shut_bool Try.underlying4 _), (trodAll_cons_mk (Below.trod laidOut (by kernel_rfl) (of_decide_eq_true (by kernel_rfl)) k0 bel lt0) (trodAll_cons_mk (Below.trod laidOut (by kernel_rfl) (of_decide_eq_true (by kernel_rfl)) k1 bel lt1) (trodAll_cons_mk (Below.trod laidOut (by kernel_rfl) (of_decide_eq_true (by kernel_rfl)) k2 bel lt2) trodAll_mk0))), rfl, bel.frame _, fun h => by cases h⟩

theorem laid_met (os : Os) : laidMet Try.prog Rows.rotBackRow.laid ((settled os).forCall (fun _ _ => 0) ⟨#[], #[.agg #[.int .i64 0, .slice none 0 0], .slice none 0 0, .slice none 0 0], []⟩).memory :=
  laidMet_of_run' 100 (by kernel_rfl) (by kernel_rfl)
theorem reads (os : Os) {H : Type} (enc : TypeId × Value → H) : ∃ places, DataW.whole enc Try.prog ((settled os).forCall (fun _ _ => 0) ⟨#[], #[.agg #[.int .i64 0, .slice none 0 0], .slice none 0 0, .slice none 0 0], []⟩).memory Try.f3.params.toList Rows.rotBackSpec.vars false (#[.agg #[.int .i64 0, .slice none 0 0], .slice none 0 0, .slice none 0 0] : Array Value).toList 8 = some ([.agg [.lit (.int .i64 0), .nil], .nil, .nil], [], places) :=
  ⟨[], by kernel_rfl⟩

set_option maxRecDepth 100000 in
theorem lifted (os : Os) (started : os.Started) (H : Type) (enc : TypeId × Value → H) (F : Stop.Interp) :
    ReturnsInHanded {} Try.checked os 3 .any ((OpenSpec.ofChange Rows.rotBackSpec).preRow enc Try.prog Try.f3 Rows.rotBackRow.domain false Rows.rotBackRow.laid) (((OpenSpec.ofChange Rows.rotBackSpec).at F).post enc Try.prog Try.f3 false true false false) := by
  obtain ⟨places, hx⟩ := reads os enc
  refine returnsInHanded_of_row (C := Try.checked) (s := (OpenSpec.ofChange Rows.rotBackSpec)) own started (by kernel_rfl) Try.func3
    (witness_row_at (enc := enc) (C := Try.checked) false (settled os) #[.agg #[.int .i64 0, .slice none 0 0], .slice none 0 0, .slice none 0 0] rfl (by kernel_rfl) (by kernel_rfl) (by kernel_rfl)
      (OpenSpec.preRow_of_cond 8 hx (by kernel_rfl) (fun k hk => by cases hk) (by kernel_rfl) (laid_met os))) ?_
  intro W base args ds gs before hval hW _ _ hsz _ _ _
  exact contract H enc W base args ds gs before hval hW hsz 

theorem said : Rows.RotBackSaid :=
  OpenClaim.holds_of_cond 3 Try.f3 rfl rfl rfl rfl rfl rfl rfl ⟨rfl, rfl, rfl, rfl, rfl⟩ rfl rfl rfl rfl rfl (by kernel_rfl) Try.func3 (by kernel_rfl)
    (of_decide_eq_true (by kernel_rfl)) (by unfold Func.isWrapper; first | (rw [if_pos (by decide +kernel)]; kernel_rfl) | (rw [if_neg (by decide +kernel)]; exact ⟨rfl, rfl⟩))
    (fun os started H enc _ F => by rw [OpenClaim.pre_eq_preRow]; exact lifted os started H enc F)

end lawRB

theorem rotBack_holds : Rows.RotBackSaid := lawRB.said

#print axioms rotBack_holds
end Go.Proofs.Ytloabkgojopeaab
