/-
  further, borders, isTurn: a list is sought in another one said twice.
-/
import Derived.Test.YtloabkgojopeaaaRoK
import Derived.Test.YtloabkgojopeaaaMg04
import Derived.Test.YtloabkgojopeaaaRoTs
import Derived.Test.YtloabkgojopeaaaMg03
import Derived.Test.YtloabkgojopeaaaMg08
namespace Go.Proofs.Ytloabkgojopeaaa
open Go.RowKit Go.Sort

/-- The first k of the borders are told. -/
def Bord (l B : List Int) (k : Nat) : Prop := ∀ i, i < k → ∃ m : Nat, B[i]? = some (m : Int) ∧ Ro.IsM l ((l.take (i + 1)).drop 1) m

def FurPost (l s : List Int) (x : Int) (w : World) (e : Ending) (w' : World) : Prop := w' = w ∧ ∃ m : Nat, e = .returned (.int .i64 (m : Int)) ∧ Ro.IsM l (s ++ [x]) m

set_option maxRecDepth 100000 in
set_option maxHeartbeats 8000000 in
theorem further_any (ao bo : Option Addr) (ca cb n m : Nat) (l B s : List Int) (x : Int) (w : World) (hL : Lst w ao n ca l) (hB : IntsAt w bo B) (hn : n ≤ 17592186043904) (hm : Ro.IsM l s m) (hmn : m < n) (hbd : Bord l B m) :
    Calls Try.prog 57 #[.slice ao n ca, .slice bo n cb, .int .i64 (m : Int), .int .i64 x] w (FurPost l s x w) := by
  have HL := Nu.hid hL
  have HB := Nu.hid hB
  have HBD := Nu.hid hbd
  have HD := Nu.hid (hm.down (x := x) (by rw [hL.len]; exact hmn))
  have HLL := Nu.hid hL.len
  clear hL hB hbd hm
  go_enter Try.func57, Try.ntmps57
  go_wp2
  go_loopw [2] (fun c wr => ∃ k : Nat, k ≤ m ∧ c = .int .i64 (k : Int) ∧ Ro.Down l s x k ∧ wr = w) (fun c _ => (intOf c).toNat)
  case atStart => exact ⟨m, Nat.le_refl _, rfl, HD.out, rfl⟩
  case round =>
    obtain ⟨k, hk, rfl, hd, hw⟩ := hrel
    obtain rfl := hw.symm
    have HDK := Nu.hid hd
    clear hd hw HD
    obtain ⟨y, hy⟩ : ∃ y, l[k]? = some y := ⟨_, List.getElem?_eq_getElem (by have := HLL.out; omega)⟩
    obtain ⟨lb, lo', rfl, lc⟩ := HL.out.elem hy
    have hk0 : (0 : Int) ≤ (k : Int) := by omega
    have hkn : (k : Int) < (n : Int) := by omega
    have HY := Nu.hid hy
    clear hy
    by_cases hx : y = x
    · have t1 : (y != x) = false := by simp [hx]
      have t2 : (y == x) = true := by simp [hx]
      have HH := Nu.hid (HDK.out.hit (by rw [HY.out, hx]))
      clear hx
      by_cases h0 : k = 0
      · subst h0
        rw [Nat.add_zero] at lc
        go_wp2
        go_ret
        exact ⟨rfl, 1, rfl, HH.out⟩
      · have h1 : (0 : Int) < (k : Int) := by omega
        go_wp2
        go_ret
        exact ⟨rfl, k + 1, by go_num, HH.out⟩
    · have t1 : (y != x) = true := by simp [hx]
      have t2 : (y == x) = false := by simp [hx]
      have HX : Hid (l[k]? ≠ some x) := by
        show _ ≠ _
        rw [HY.out]
        intro e
        exact hx (Option.some.inj e)
      clear hx
      by_cases h0 : k = 0
      · subst h0
        rw [Nat.add_zero] at lc
        have HH := Nu.hid (HDK.out.miss HX.out)
        go_wp2
        go_ret
        exact ⟨rfl, 0, rfl, HH.out⟩
      · have h1 : (0 : Int) < (k : Int) := by omega
        obtain ⟨b, hb, hib⟩ := HBD.out (k - 1) (by omega)
        rw [show k - 1 + 1 = k by omega] at hib
        obtain ⟨h2, hd2⟩ := HDK.out.next (by omega) HX.out hib
        obtain ⟨bb, bo', rfl, bc⟩ := HB.out (k - 1) (b : Int) hb
        obtain ⟨k1, hk1⟩ : ∃ k1 : Nat, k1 = k - 1 := ⟨_, rfl⟩
        rw [← hk1] at bc
        have hs : (k : Int) - 1 = (k1 : Int) := by omega
        have hk10 : (0 : Int) ≤ (k1 : Int) := by omega
        have hk1n : (k1 : Int) < (n : Int) := by omega
        have hwk : IntKind.i64.wrap (k1 : Int) = (k1 : Int) := by rw [IntKind.wrap_i64]; omega
        have HD2 := Nu.hid hd2
        clear hk1 hb hib hd2
        go_wp2
        go_roundw
        case rel => exact ⟨b, by omega, rfl, HD2.out, by first | rfl | trivial⟩
        case measure => simp [intOf]; omega

/-- What borders reads while it works at place i: the list, and the borders ahead of i. -/
structure BS (V : World) (ao : Option Addr) (n ca : Nat) (l : List Int) (g : Nat) (B : List Int) : Prop where
  lst : Lst V ao n ca l
  low : ∀ x, ao = some x → 0 < n → x.block < g
  bor : IntsAt V (some ⟨g, 0, none⟩) B

theorem BS.store {V : World} {ao : Option Addr} {n ca g i : Nat} {l B : List Int} (h : BS V ao n ca l g B) (hi : B.length ≤ i) (x : Value) : BS (V.setCell ⟨g, i, none⟩ x) ao n ca l g B := by
  refine ⟨⟨h.lst.len, fun j y hj => ?_, h.lst.none⟩, h.low, fun j y hj => ?_⟩
  · obtain ⟨b, o, e, hc⟩ := h.lst.ints j y hj
    refine ⟨b, o, e, ?_⟩
    have hn : 0 < n := by
      have := (List.getElem?_eq_some_iff.1 hj).1
      have := h.lst.len
      omega
    have h2 : b < g := h.low _ e hn
    rw [World.cell?_setCell_other _ _ _ _ (fun e => by simp only [Addr.mk.injEq] at e; omega)]
    exact hc
  · obtain ⟨b, o, e, hc⟩ := h.bor j y hj
    cases e
    refine ⟨g, 0, rfl, ?_⟩
    have hj2 := (List.getElem?_eq_some_iff.1 hj).1
    rw [World.cell?_setCell_other _ _ _ _ (fun e => by simp only [Addr.mk.injEq] at e; omega)]
    exact hc

theorem BS.drew {V : World} {ao : Option Addr} {n ca g : Nat} {l B : List Int} (h : BS V ao n ca l g B) : BS V.drew ao n ca l g B := ⟨h.lst.later (Below.refl _ _).drew, h.low, h.bor.later (Below.refl _ _).drew⟩

/-- What borders answers. -/
def BordPost (l : List Int) (n : Nat) (w : World) (e : Ending) (w' : World) : Prop := ∃ (g : Nat) (B : List Int), e = .returned (.slice (some ⟨g, 0, none⟩) n n) ∧ B.length = n ∧ IntsBlk w' g B ∧ Bord l B n ∧ Below w.heap.size w w'

theorem Ro.drop_snoc {l : List Int} {i : Nat} {x : Int} (hi : 0 < i) (h : l[i]? = some x) : (l.take (i + 1)).drop 1 = (l.take i).drop 1 ++ [x] := by
  have hl := (List.getElem?_eq_some_iff.1 h).1
  rw [Ro.take_snoc' h, List.drop_append_of_le_length (by rw [List.length_take]; omega)]

theorem Bord.set {l B : List Int} {i m : Nat} (h : Bord l B i) (hi : i < B.length) (hm : Ro.IsM l ((l.take (i + 1)).drop 1) m) : Bord l (B.set i (m : Int)) (i + 1) := by
  intro j hj
  by_cases e : i = j
  · subst e
    exact ⟨m, by rw [List.getElem?_set, if_pos rfl, if_pos hi], hm⟩
  · obtain ⟨k, hk, hik⟩ := h j (by omega)
    exact ⟨k, by rw [List.getElem?_set, if_neg e]; exact hk, hik⟩

set_option maxRecDepth 100000 in
set_option maxHeartbeats 8000000 in
theorem borders_any (ao : Option Addr) (ca n : Nat) (l : List Int) (w : World) (hL : Lst w ao n ca l) (h0 : 0 < n) (hn : n ≤ 17592186043904) :
    Calls Try.prog 56 #[.slice ao n ca] w (BordPost l n w) := by
  obtain ⟨i0, hi, hz0, hz1, hz2⟩ := info_parts Try.infoNum
  have HL := Nu.hid hL
  have HLL := Nu.hid hL.len
  have hlow : ∀ x, ao = some x → x.block < w.heap.size := fun x hx => by
    subst hx
    obtain ⟨y, hy⟩ : ∃ y, l[0]? = some y := ⟨_, List.getElem?_eq_getElem (by rw [hL.len]; exact h0)⟩
    obtain ⟨b, o, e, hc⟩ := hL.ints 0 y hy
    cases e
    exact block_lt_of_cell hc
  have HLOW := Nu.hid hlow
  clear hL hlow
  go_enter Try.func56, Try.ntmps56
  go_wp2_with (at_make; refine wpList_make_full _ rfl _ _ 22 rfl w.heap.size 3 i0 (.int .i64 0) 1 Try.underlying22 hi hz0 hz1 _ _ _ _ n rfl rfl rfl rfl (by rw [hz2]; omega) (by unfold maxLen; omega) (Nat.le_refl _) ?_; refine Hid.out ?_)
  refine Nu.hid ?_
  intro w2 hrow hg2
  rw [made_zeros] at hrow
  have HI2 := Nu.hid (ints_of_row hrow)
  have HB2 : Hid (Below w.heap.size w w2) := (Below.refl _ _).grown hg2 (Nat.le_refl _) (fun j hj => by cases hj)
  have HBD0 : Hid (Bord l (List.replicate n 0) 1) := by
    intro j hj
    obtain rfl : j = 0 := by omega
    refine ⟨0, by rw [List.getElem?_replicate, if_pos h0]; rfl, ?_⟩
    have e : (l.take (0 + 1)).drop 1 = [] := List.drop_eq_nil_of_le (by rw [List.length_take]; omega)
    rw [e]
    exact Ro.IsM.nil l
  clear hrow hg2
  go_wp2
  go_loopw [4] (fun c wr => ∃ (i : Nat) (B : List Int), 1 ≤ i ∧ i ≤ n ∧ c = .int .i64 (i : Int) ∧ B.length = n ∧ IntsBlk wr w.heap.size B ∧ Bord l B i ∧ Below w.heap.size w wr) (fun c _ => n - (intOf c).toNat)
  case atStart => exact ⟨1, _, Nat.le_refl _, h0, rfl, by simp, HI2.out, HBD0.out, HB2.out⟩
  case round =>
    obtain ⟨i, B, hi1, hin, rfl, hBl, hiB, hbd, hb⟩ := hrel
    clear HI2 HB2 HBD0
    have HBL := Nu.hid hBl
    have HIB := Nu.hid hiB
    have HBD := Nu.hid hbd
    have HB := Nu.hid hb
    clear hBl hiB hbd hb
    by_cases hlt : i < n
    · have hlti : (i : Int) < (n : Int) := by omega
      have hii0 : (0 : Int) ≤ (i : Int) := by omega
      obtain ⟨x, hx⟩ : ∃ x, l[i]? = some x := ⟨_, List.getElem?_eq_getElem (by have := HLL.out; omega)⟩
      obtain ⟨m, hm, him⟩ := HBD.out (i - 1) (by omega)
      rw [show i - 1 + 1 = i by omega] at him
      have hmi := him.short
      rw [List.length_drop, List.length_take] at hmi
      have hmn : m < i := by omega
      obtain ⟨y, hy⟩ : ∃ y, B[i]? = some y := ⟨_, List.getElem?_eq_getElem (by have := HBL.out; omega)⟩
      obtain ⟨lb, lo', rfl, lc⟩ := (HL.out.later HB.out).elem hx
      have hs0 : BS wr (some ⟨lb, lo', none⟩) n ca l w.heap.size (B.take i) := by
        refine ⟨HL.out.later HB.out, fun z hz _ => HLOW.out z hz, fun j z hz => ?_⟩
        rw [List.getElem?_take] at hz
        split at hz
        · exact ⟨_, _, rfl, by rw [Nat.zero_add]; exact HIB.out.cell hz⟩
        · cases hz
      have hbt : (B.take i).length = i := by rw [List.length_take, HBL.out]; omega
      have hbm : Bord l (B.take i) m := fun j hj => by
        obtain ⟨k, hk, hik⟩ := HBD.out j (by omega)
        exact ⟨k, by rw [List.getElem?_take, if_pos (by omega)]; exact hk, hik⟩
      have HF := Nu.hid (fun V (hV : BS V (some ⟨lb, lo', none⟩) n ca l w.heap.size (B.take i)) => further_any (some ⟨lb, lo', none⟩) (some ⟨w.heap.size, 0, none⟩) ca n n m l (B.take i) ((l.take i).drop 1) x V hV.lst hV.bor hn him (by omega) hbm)
      obtain ⟨i1, hi1e⟩ : ∃ i1 : Nat, i1 = i - 1 := ⟨_, rfl⟩
      rw [← hi1e] at hm
      have hcb : ∀ V, BS V (some ⟨lb, lo', none⟩) n ca l w.heap.size (B.take i) → V.cell? ⟨w.heap.size, i1, none⟩ = some (.int .i64 (m : Int)) ∧ V.cell? ⟨lb, lo' + i, none⟩ = some (.int .i64 x) := fun V hV => by
        obtain ⟨b, o, e, hc⟩ := hV.bor i1 (m : Int) (by rw [List.getElem?_take, if_pos (by omega)]; exact hm)
        cases e
        rw [Nat.zero_add] at hc
        obtain ⟨b, o, e, hc'⟩ := hV.lst.ints i x hx
        cases e
        exact ⟨hc, hc'⟩
      have HCB := Nu.hid hcb
      have cst := HIB.out.cell hy
      have fst := HIB.out.free i
      have HSN := Nu.hid (Ro.drop_snoc (by omega) hx)
      have hs : (i : Int) - 1 = (i1 : Int) := by omega
      have hi10 : (0 : Int) ≤ (i1 : Int) := by omega
      have hi1n : (i1 : Int) < (n : Int) := by omega
      have hwi : IntKind.i64.wrap (i1 : Int) = (i1 : Int) := by rw [IntKind.wrap_i64]; omega
      have HS0 := Nu.hid hs0
      have HBT := Nu.hid hbt
      clear hx hm him hmi hy hs0 hbt hbm hi1e hcb
      have hS : ∀ V, BS V (some ⟨lb, lo', none⟩) n ca l w.heap.size (B.take i) → V.cell? ⟨w.heap.size, i1, none⟩ = some (.int .i64 (m : Int)) ∧ V.cell? ⟨lb, lo' + i, none⟩ = some (.int .i64 x) ∧ BS V (some ⟨lb, lo', none⟩) n ca l w.heap.size (B.take i) := fun V hV => ⟨(HCB.out V hV).1, (HCB.out V hV).2, hV⟩
      have HS := Nu.hid hS
      have HST : Hid (∀ V y, BS V (some ⟨lb, lo', none⟩) n ca l w.heap.size (B.take i) → BS (V.setCell ⟨w.heap.size, i, none⟩ y) (some ⟨lb, lo', none⟩) n ca l w.heap.size (B.take i)) := fun V y hV => hV.store (by rw [HBT.out]; exact Nat.le_refl _) y
      clear hS
      go_wp2_with fail
      go_region_held3 (fun V => V.cell? ⟨w.heap.size, i1, none⟩ = some (.int .i64 (m : Int)) ∧ V.cell? ⟨lb, lo' + i, none⟩ = some (.int .i64 x) ∧ BS V (some ⟨lb, lo', none⟩) n ca l w.heap.size (B.take i))
        (first | exact HS.out _ (by first | assumption | exact HS0.out.drew) | exact HS.out _ (HST.out _ _ HS0.out).drew | exact HS.out _ (HST.out _ _ (by first | assumption | exact HS0.out.drew)))
        ((go_at_call 57; refine (HF.out _ (by first | assumption | exact HS0.out.drew)).mono ?_; rintro e V1 ⟨hV1, r, rfl, hr⟩; subst hV1))
      rw [← HSN.out] at hr
      have HR := Nu.hid (HBD.out.set (by have := HBL.out; omega) hr)
      clear hr
      go_wp2
      go_roundw
      case rel => exact ⟨i + 1, B.set i (r : Int), by omega, by omega, by go_num, by rw [List.length_set]; exact HBL.out, HIB.out.set i (r : Int), HR.out, (HB.out.trans (below_setCell (g := w.heap.size) _ (Nat.le_refl _))).drew⟩
      case measure => simp [intOf]; omega
    · have hlti : ¬ (i : Int) < (n : Int) := by omega
      obtain rfl : i = n := by omega
      go_wp2
      go_ret
      exact ⟨_, B, rfl, HBL.out, HIB.out, HBD.out, HB.out⟩

def FurPost2 (l s : List Int) (w : World) (e : Ending) (w' : World) : Prop := w' = w ∧ ∃ m : Nat, e = .returned (.int .i64 (m : Int)) ∧ Ro.IsM l s m

set_option maxRecDepth 100000 in
set_option maxHeartbeats 8000000 in
theorem isTurn_any (ao bo : Option Addr) (ca cb n m : Nat) (a b : List Int) (w : World) (ha : Lst w ao n ca a) (hb : Lst w bo m cb b) (hn : n ≤ 17592186043904) (hm : m ≤ 17592186043904) :
    Calls Try.prog 35 #[.slice ao n ca, .slice bo m cb] w (TnPost a b w) := by
  have HA := Nu.hid ha
  have HB := Nu.hid hb
  have HAL := Nu.hid ha.len
  have HBL := Nu.hid hb.len
  clear ha hb
  by_cases hnm : n = m
  · subst hnm
    by_cases h0 : n = 0
    · subst h0
      have HT : Hid (Ro.Tn a b) := .inl ⟨List.length_eq_zero_iff.1 HAL.out, List.length_eq_zero_iff.1 HBL.out⟩
      go_enter Try.func35, Try.ntmps35
      go_wp2
      go_ret
      exact ⟨Below.refl _ _, .inl ⟨HT.out, rfl⟩⟩
    · have HBO := Nu.hid (borders_any ao ca n a w HA.out (by omega) hn)
      have hn0 : ((n : Int) == 0) = false := beq_false_of_ne (by omega)
      have hn1 : ¬ (n : Int) = 0 := by omega
      go_enter Try.func35, Try.ntmps35
      go_wp2_with (go_at_call 56; refine HBO.out.mono ?_; refine Hid.out ?_)
      refine Nu.hid ?_
      rintro e w1 ⟨g, B, rfl, hBl, hiB, hbd, hb1⟩
      have HIB := Nu.hid hiB.at
      have HBD := Nu.hid hbd
      have HB1 := Nu.hid hb1
      obtain ⟨M, hM⟩ : ∃ M, M = 2 * n := ⟨_, rfl⟩
      have hmul : IntKind.i64.wrap (2 * (n : Int)) = (M : Int) := by rw [IntKind.wrap_i64]; omega
      have hmul2 : 2 * (n : Int) = (M : Int) := by omega
      have HM := Nu.hid hM
      have HA1 := Nu.hid (HA.out.later hb1)
      have HBB1 := Nu.hid (HB.out.later hb1)
      clear hBl hiB hbd hb1 hM
      go_wp2
      go_loopw [6, 21] (fun c d wr => ∃ j q : Nat, j ≤ M ∧ d = .int .i64 (j : Int) ∧ c = .int .i64 (q : Int) ∧ q < n ∧ Ro.IsM a (Ro.dbl b j) q ∧ (∀ i, i ≤ j → ¬ a <:+ Ro.dbl b i) ∧ wr = w1) (fun _ d _ => M - (intOf d).toNat)
      case atStart => exact ⟨0, 0, Nat.zero_le _, rfl, rfl, by omega, Ro.IsM.nil a, fun i hi h => by
        obtain rfl : i = 0 := by omega
        have := h.length_le
        rw [Ro.dbl, List.take_zero, List.length_nil, HAL.out] at this
        omega, rfl⟩
      case round =>
        obtain ⟨j, q, hj, rfl, rfl, hq, hM1, hno, hw⟩ := hrel
        obtain rfl := hw.symm
        have HM1 := Nu.hid hM1
        have HNO := Nu.hid hno
        clear hM1 hno hw
        by_cases hlt : j < M
        · have hlti : (j : Int) < (M : Int) := by omega
          have hj0 : (0 : Int) ≤ (j : Int) := by omega
          obtain ⟨t, ht⟩ : ∃ t, t = j % n := ⟨_, rfl⟩
          have htn : t < n := by rw [ht]; exact Nat.mod_lt _ (by omega)
          have htm : (j : Int).tmod (n : Int) = (t : Int) := by
            rw [Int.tmod_eq_emod_of_nonneg hj0, ht]
            exact (Int.natCast_emod j n).symm
          have htm2 : (j : Int) % (n : Int) = (t : Int) := by
            rw [ht]
            exact (Int.natCast_emod j n).symm
          have htm3 : j % n = t := ht.symm
          obtain ⟨x, hx⟩ : ∃ x, b[t]? = some x := ⟨_, List.getElem?_eq_getElem (by have := HBL.out; omega)⟩
          obtain ⟨bb, bo', rfl, bc⟩ := HBB1.out.elem hx
          have HBC := Nu.hid bc
          have hds := Ro.dbl_succ (b := b) (j := j) (by rw [HBL.out, ← HM.out]; exact hlt)
          rw [HBL.out, ← ht, List.getD_eq_getElem?_getD, hx] at hds
          have hds2 : Ro.dbl b (j + 1) = Ro.dbl b j ++ [x] := hds
          have HF := Nu.hid (further_any ao (some ⟨g, 0, none⟩) ca n n q a B (Ro.dbl b j) x w1 HA1.out HIB.out hn HM1.out hq (fun i hi => HBD.out i (by omega)))
          unfold FurPost at HF
          rw [← hds2] at HF
          have HF2 : Hid (Calls Try.prog 57 #[.slice ao n ca, .slice (some ⟨g, 0, none⟩) n n, .int .i64 (q : Int), .int .i64 x] w1 (FurPost2 a (Ro.dbl b (j + 1)) w1)) := HF.out
          clear HF
          have ht0 : (0 : Int) ≤ (t : Int) := by omega
          have htn2 : (t : Int) < (n : Int) := by omega
          have hwt : IntKind.i64.wrap (t : Int) = (t : Int) := by rw [IntKind.wrap_i64]; omega
          clear ht hx hds hds2 bc
          have bc : w1.cell? ⟨bb, bo' + t, none⟩ = some (.int .i64 x) := HBC.out
          go_wp2_with (go_at_call 57; refine HF2.out.mono ?_; refine Hid.out ?_)
          refine Nu.hid ?_
          rintro e V1 ⟨hV1, r, rfl, hr⟩
          obtain rfl := hV1.symm
          have hrn := hr.le
          rw [HAL.out] at hrn
          clear hV1
          by_cases hrq : r = n
          · have HT : Hid (Ro.Tn a b) := Ro.tn_of_dbl (j := j + 1) (by rw [HAL.out, HBL.out]) (by rw [HAL.out]; omega) (by rw [HBL.out, ← HM.out]; omega) (by
              have := hr.suf
              rw [hrq, ← HAL.out, List.take_length] at this
              exact this)
            have t1 : ((r : Int) == (n : Int)) = true := by simp [hrq]
            clear hr hrq hrn
            go_wp2
            go_ret
            exact ⟨HB1.out, .inl ⟨HT.out, rfl⟩⟩
          · have t1 : ((r : Int) == (n : Int)) = false := beq_false_of_ne (by omega)
            have HR := Nu.hid hr
            have HNO2 : Hid (∀ i, i ≤ j + 1 → ¬ a <:+ Ro.dbl b i) := fun i hi h => by
              by_cases e : i = j + 1
              · subst e
                have := hr.most n (by rw [HAL.out]; exact Nat.le_refl _) (by rw [← HAL.out, List.take_length]; exact h)
                omega
              · exact HNO.out i (by omega) h
            have hrn2 : r < n := by omega
            clear hr hrq hrn
            go_wp2
            go_roundw
            case rel => exact ⟨j + 1, r, by omega, by go_num, rfl, hrn2, HR.out, HNO2.out, by first | rfl | trivial⟩
            case measure => simp [intOf]; omega
        · have hlti : ¬ (j : Int) < (M : Int) := by omega
          obtain rfl : j = M := by omega
          have HT : Hid (¬ Ro.Tn a b) := fun h => by
            obtain ⟨i, -, hi, hs⟩ := Ro.dbl_of_tn h
            exact HNO.out i (by rw [HBL.out, ← HM.out] at hi; exact hi) hs
          go_wp2
          go_ret
          exact ⟨HB1.out, .inr ⟨HT.out, rfl⟩⟩
  · have t1 : ((n : Int) != (m : Int)) = true := by simp; omega
    have HT : Hid (¬ Ro.Tn a b) := fun h => hnm (by rw [← HAL.out, ← HBL.out]; exact h.len)
    clear hnm
    go_enter Try.func35, Try.ntmps35
    go_wp2
    go_ret
    exact ⟨Below.refl _ _, .inr ⟨HT.out, rfl⟩⟩

end Go.Proofs.Ytloabkgojopeaaa
