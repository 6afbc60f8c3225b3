/-
  Proved: for every list of numbers the law NumsBack answers true, and the numbers read afterwards as before.
-/
import Derived.Test.YtcglpafbmekabaaDoorBaseInts
import Derived.Test.YtcglpafbmekabaaDoorPlain7
import Derived.Lib.ConvBytes
import Derived.Lib.AtoiErrMem
import Derived.Deep.RegionHeld3
import Derived.Lib.Strings
namespace Go.Proofs.YtcglpafbmekabaaDoor
open Go.ChangeShapes Go.WideShapes Go.ChangeAt Go.RowKit

namespace lawBack

theorem rowTo_eq (z : Nat → Int) : ∀ k, rowTo z k = lineTo z k
  | 0 => rfl
  | k + 1 => by simp only [rowTo, lineTo, rowTo_eq z k]

def okB (x : Int) : Bool := decide (0 ≤ x) && decide (x ≤ 999999999)

/-- Those of the first k numbers that a text can hold. -/
def flt (zs : List Int) (k : Nat) : List Int := (zs.take k).filter okB

theorem flt_le (zs : List Int) (k : Nat) : (flt zs k).length ≤ k := Nat.le_trans (List.length_filter_le _ _) (List.length_take_le _ _)

theorem flt_yes (zs : List Int) (k : Nat) (hk : k < zs.length) (h : okB (zs.getD k 0) = true) : flt zs (k + 1) = flt zs k ++ [zs.getD k 0] := by
  unfold flt
  rw [List.take_add_one, List.filter_append]
  have e : zs[k]?.toList = [zs.getD k 0] := by rw [List.getD_eq_getElem?_getD, List.getElem?_eq_getElem hk]; rfl
  rw [e]
  simp only [List.filter_cons, h, if_true, List.filter_nil]

theorem flt_no (zs : List Int) (k : Nat) (hk : k < zs.length) (h : okB (zs.getD k 0) = false) : flt zs (k + 1) = flt zs k := by
  unfold flt
  rw [List.take_add_one, List.filter_append]
  have e : zs[k]?.toList = [zs.getD k 0] := by rw [List.getD_eq_getElem?_getD, List.getElem?_eq_getElem hk]; rfl
  rw [e]
  simp only [List.filter_cons, h, List.filter_nil]
  simp

theorem flt_ok (zs : List Int) (k i : Nat) (hi : i < (flt zs k).length) : 0 ≤ (flt zs k).getD i 0 ∧ (flt zs k).getD i 0 ≤ 999999999 := by
  have hm : (flt zs k).getD i 0 ∈ flt zs k := by rw [List.getD_eq_getElem?_getD, List.getElem?_eq_getElem hi]; simp
  have := (List.mem_filter.1 hm).2
  simpa [okB] using this

theorem own_list {w : World} {B n : Nat} {v : Value} {ls : List Int} (hn : n = ls.length) (hl : ∀ i, i < n → 0 ≤ ls.getD i 0 ∧ ls.getD i 0 ≤ 999999999) (h : w.ownsRow B 3 1 v n (ls.map (Value.int .i64))) : ∃ ao c, v = .slice ao n c ∧ HasInts w ao n (fun i => ls.getD i 0) := by
  rcases h.2 with ⟨rfl, h0⟩ | ⟨gb, c, cur, rfl, _⟩
  · subst h0
    exact ⟨none, 0, rfl, fun i hi => by omega⟩
  · refine ⟨some ⟨gb, 0, none⟩, c, rfl, fun i hi => ⟨?_, gb, 0, rfl, ?_⟩⟩
    · have h9 := hl i hi
      show -9223372036854775808 ≤ ls.getD i 0 ∧ ls.getD i 0 ≤ 9223372036854775807
      omega
    have hc := World.ownsRow.cells h (g := gb) rfl i (.int .i64 (ls.getD i 0)) (by
      rw [List.getElem?_map, List.getElem?_eq_getElem (by omega)]
      simp [List.getD_eq_getElem?_getD, List.getElem?_eq_getElem (show i < ls.length by omega)])
    have e : ((⟨gb, 0, none⟩ : Addr).add i) = ⟨gb, 0 + i, none⟩ := by
      by_cases h0 : i = 0 <;> simp [Addr.add, h0]
    rw [e] at hc
    exact hc

/-- The four cells of a token in block T, the j-th. -/
def At4 (w : World) (T j : Nat) (k a f m : Int) : Prop :=
  w.cell? ⟨T, j * 4, none⟩ = some (.int .i64 k) ∧ w.cell? ⟨T, j * 4 + 1, none⟩ = some (.int .i64 a) ∧ w.cell? ⟨T, j * 4 + 2, none⟩ = some (.int .i64 f) ∧ w.cell? ⟨T, j * 4 + 3, none⟩ = some (.int .i64 m)

theorem At4.later {w w' : World} {T j : Nat} {k a f m : Int} (h : At4 w T j k a f m) (hb : Below w.heap.size w w') : At4 w' T j k a f m := by
  obtain ⟨h0, h1, h2, h3⟩ := h
  exact ⟨(hb.cell (p := ⟨T, j * 4, none⟩) (block_lt_of_cell h0)).trans h0, (hb.cell (p := ⟨T, j * 4 + 1, none⟩) (block_lt_of_cell h1)).trans h1, (hb.cell (p := ⟨T, j * 4 + 2, none⟩) (block_lt_of_cell h2)).trans h2, (hb.cell (p := ⟨T, j * 4 + 3, none⟩) (block_lt_of_cell h3)).trans h3⟩

theorem at4_of {w : World} {T n c : Nat} {ts : List Nu.Tok} (h : TokSlice w (.slice (some ⟨T, 0, none⟩) n c) ts) {j : Nat} {t : Nu.Tok} (hj : ts[j]? = some t) : At4 w T j t.kind t.at' t.fin t.num := by
  rcases h with ⟨h, _⟩ | ⟨T', c', h, hc⟩
  · cases h
  · cases h
    exact hc j t hj

/-- What the reads of one number's test lean on. -/
def LeansB (N lb lo j q r : Nat) (x : Int) (W : World) : Prop :=
  W.cell? ⟨N, 0, none⟩ = some (.int .i64 1) ∧ W.cell? ⟨N, 1, none⟩ = some (.int .i64 q) ∧ W.cell? ⟨N, 2, none⟩ = some (.int .i64 r) ∧ W.cell? ⟨N, 3, none⟩ = some (.int .i64 x) ∧ W.cell? ⟨lb, lo + j, none⟩ = some (.int .i64 x) ∧ Tab W

theorem LeansB.drew {N lb lo j q r : Nat} {x : Int} {W : World} (h : LeansB N lb lo j q r x W) : LeansB N lb lo j q r x W.drew := h
theorem LeansB.grown {N lb lo j q r : Nat} {x : Int} {W W' : World} (h : LeansB N lb lo j q r x W) (hg : W.grownBy W' none) : LeansB N lb lo j q r x W' :=
  ⟨hg.cell h.1 (by simp), hg.cell h.2.1 (by simp), hg.cell h.2.2.1 (by simp), hg.cell h.2.2.2.1 (by simp), hg.cell h.2.2.2.2.1 (by simp), h.2.2.2.2.2.below (Below_of_grown hg)⟩

/-- The bytes of the k-th number within the line. -/
theorem cut_row {z : Nat → Int} {n k : Nat} (hk : k < n) : ((Nu.whole z n).drop (Nu.startOf z k)).take ((rowTo z (k + 1)).length - Nu.startOf z k) = Lib.itoa (z k) := by
  have hlen := Nu.rowTo_succ z k
  obtain ⟨r, hr⟩ := Nu.row_prefix z n (k + 1) (by omega)
  have e : ∃ p, Nu.whole z n = p ++ (Lib.itoa (z k) ++ (r ++ [10])) ∧ p.length = Nu.startOf z k := by
    by_cases h0 : 0 < k
    · refine ⟨rowTo z k ++ [32], ?_, ?_⟩
      · rw [Nu.whole, hr]; simp only [rowTo]; rw [if_pos h0]; simp
      · unfold Nu.startOf; rw [if_pos h0]; simp
    · refine ⟨rowTo z k, ?_, ?_⟩
      · rw [Nu.whole, hr]; simp only [rowTo]; rw [if_neg h0]; simp
      · unfold Nu.startOf; rw [if_neg h0]; simp
  obtain ⟨p, hp, hpl⟩ := e
  rw [hp, ← hpl, List.drop_left, hlen, ← hpl, Nat.add_sub_cancel_left, List.take_left]

set_option maxRecDepth 100000 in
set_option maxHeartbeats 16000000 in
theorem walk (a0 : Option Addr) (len0 cap0 : Nat) (z0 : List Int) (w : World) (w0 : IsRow .i64 8 w a0 len0 cap0 z0) (ht : Tab w) :
    Calls Tryd.prog 5 #[.slice a0 len0 cap0] w fun e w' => e = .returned (.bool true) ∧ Below w.heap.size w w' := by
  obtain ⟨i0, hi, hz0, hz1, hz2⟩ := info_parts Tryd.infoInt
  have hlen : len0 * 8 ≤ 140737488351232 := w0.small
  have hzl : len0 ≤ z0.length := by have := w0.take; simp at this; omega
  have HTX := Nu.hid w0.ints
  have HTAB := Nu.hid ht
  clear w0 ht
  go_enter Tryd.func5, Tryd.ntmps5
  go_wp2_with (go_at_call 9; refine (awake_any _ HTAB.out).mono ?_; rintro e w1 ⟨rfl, hb1⟩; refine Hid.out ?_)
  refine Nu.hid ?_
  have HB1 := Nu.hid hb1
  clear hb1
  go_wp2
  go_loopw [3, 4] (fun v c wr => ∃ k : Nat, k ≤ len0 ∧ k ≤ 2000000 ∧ c = .int .i64 k ∧ wr.ownsRow w1.heap.size 3 1 v (flt z0 k).length ((flt z0 k).map (Value.int .i64)) ∧ Below w1.heap.size w1 wr) (fun _ c _ => len0 - (intOf c).toNat)
  case atStart => exact ⟨0, Nat.zero_le _, Nat.zero_le _, rfl, World.ownsRow_nil _ _ _ _, Below.refl _ _⟩
  case round =>
    obtain ⟨k, hk, hk2, rfl, hown, hbr⟩ := hrel
    have hBw := hbr.size
    by_cases hgo : k < len0 ∧ k < 2000000
    · obtain ⟨hlt, hlt2⟩ := hgo
      have hlti : (k : Int) < (len0 : Int) := by omega
      have hlt2i : (k : Int) < 2000000 := by omega
      obtain ⟨⟨b0, b1⟩, tb, to, rfl, cq⟩ := (HTX.out.later (HB1.out.trans (hbr.mono HB1.out.size))) k hlt
      have HY := Nu.hid (flt_yes z0 k (by omega))
      have HN := Nu.hid (flt_no z0 k (by omega))
      have hfl := flt_le z0 k
      obtain ⟨x, hx⟩ : ∃ x, x = z0.getD k 0 := ⟨_, rfl⟩
      dsimp only at cq b0 b1
      rw [← hx] at cq HY HN b0 b1
      clear hx
      generalize flt z0 k = ls at *
      by_cases hok : 0 ≤ x ∧ x ≤ 999999999
      · obtain ⟨o1, o2⟩ := hok
        have hx2 : okB x = true := by simp [okB, o1, o2]
        have HX2 := Nu.hid hx2
        clear hx2
        go_wp2_with (at_builtin; refine wpList_append_own _ rfl _ _ 32 rfl w1.heap.size 3 i0 (.int .i64 0) 1 8 Tryd.underlying32 hi hz0 hz1 hz2 rfl (by decide) _ _ _ rfl (World.ownsRow.alloc hown _) ⟨wr.heap.size, 0, none⟩ 1 1 [.int .i64 x] rfl rfl (new_one _ _ _) (by intro u' hu'; simp at hu'; subst hu'; rfl) (by unfold maxLen; omega) (by omega) (by simp; omega) ?_; intro v1 w2 hown1 hg1 _; refine Hid.out ?_)
        refine Nu.hid ?_
        have hb1 : Below w1.heap.size w1 w2 := (hbr.alloc hBw _).grown hg1 (by simp; omega) (fun q hq => (hown.lt q hq).1)
        clear hg1 cq
        go_wp2
        go_roundw
        case rel =>
          refine ⟨k + 1, by omega, by omega, by go_num, ?_, hb1⟩
          rw [HY.out HX2.out]
          simpa using hown1
        case measure => simp [intOf]; omega
      · have hx2 : okB x = false := by
          simp only [okB, Bool.and_eq_false_iff, decide_eq_false_iff_not]
          omega
        have HX2 := Nu.hid hx2
        clear hx2
        by_cases o1 : 0 ≤ x
        · have o2 : ¬ (x ≤ 999999999) := by omega
          clear hok
          go_wp2
          go_roundw
          case rel =>
            refine ⟨k + 1, by omega, by omega, by go_num, ?_, hbr⟩
            rw [HN.out HX2.out]
            exact hown
          case measure => simp [intOf]; omega
        · clear hok
          go_wp2
          go_roundw
          case rel =>
            refine ⟨k + 1, by omega, by omega, by go_num, ?_, hbr⟩
            rw [HN.out HX2.out]
            exact hown
          case measure => simp [intOf]; omega
    · have hfl := flt_le z0 k
      have hfo := flt_ok z0 k
      generalize flt z0 k = ls at *
      obtain ⟨ao, c, hv, hints⟩ := own_list rfl hfo hown
      subst hv
      obtain ⟨z, hz⟩ : ∃ z : Nat → Int, z = fun i => ls.getD i 0 := ⟨_, rfl⟩
      rw [← hz] at hints
      have hfz : ∀ i, i < ls.length → 0 ≤ z i ∧ z i ≤ 999999999 := by rw [hz]; exact hfo
      clear hz hfo
      generalize ls.length = n at *
      have HI := Nu.hid hints
      have HFO := Nu.hid hfz
      have hrs := Nu.row_short (z := z) (n := n) hfz n (Nat.le_refl _)
      obtain ⟨TX, hTX⟩ : ∃ TX, TX = Nu.whole z n := ⟨_, rfl⟩
      have hTX2 : lineTo z n ++ [10] = TX := by rw [hTX, Nu.whole, rowTo_eq]
      have V := fun (W : World) (h1 : HasInts W ao n z) (h2 : Tab W) => line_any ao n c z W h1 (by omega) h2
      rw [hTX2] at V
      have HV := Nu.hid V
      obtain ⟨m, hm⟩ : ∃ m, m = (rowTo z n).length := ⟨_, rfl⟩
      have hTL : TX.length = m + 1 := by rw [hTX, hm]; exact Nu.whole_length
      have hSC : Nu.scan (Nu.ofBytes TX) TX.length = .ok (Nu.toksFrom z n n) := by rw [hTX]; exact Nu.scan_row hfz
      have hsz : (⟨TX.toArray⟩ : ByteArray).size = m + 1 := by simp [ByteArray.size, hTL]
      rw [hTL] at hSC
      rw [← hm] at hrs
      have HSC := Nu.hid hSC
      have HTX1 := Nu.hid hTX
      have HM := Nu.hid hm
      have HTL := Nu.hid hTL
      clear V hTX2 hSC hTX hm hTL hfz
      have HBR := Nu.hid (HB1.out.trans (hbr.mono HB1.out.size))
      clear hints hown hbr
      have kb := fun (W : World) (s : ByteArray) => Lib.run_convert_string_bytes (P := Tryd.prog) W 9 22 5 s Tryd.underlying9 Tryd.underlying22 Tryd.underlying5
      by_cases hA : k < len0
      · have h1 : (k : Int) < (len0 : Int) := by omega
        have h2 : ¬ ((k : Int) < 2000000) := by omega
        go_wp2_with (go_at_call 13; refine (HV.out _ HI.out (HTAB.out.below HBR.out)).mono ?_; rintro e w3 ⟨rfl, hb3⟩; refine Hid.out ?_)
        refine Nu.hid ?_
        have HB3 := Nu.hid (HBR.out.trans (hb3.mono HBR.out.size))
        have HI3 := Nu.hid (HI.out.later hb3)
        clear hb3
        have hTXT : HasText (Lib.bytesWorld w3 5 ⟨TX.toArray⟩) (some ⟨w3.heap.size, 0, none⟩) (m + 1) (Nu.ofBytes TX) := fun i hi => by
          have hc := Lib.bytesWorld_cell w3 5 ⟨TX.toArray⟩ i (by rw [hsz]; exact hi)
          refine ⟨?_, w3.heap.size, 0, rfl, ?_⟩
          · unfold Nu.ofBytes
            have := (TX.getD i 0).toNat_lt
            omega
          · rw [Nat.zero_add]
            exact hc
        have hcapb := grownCap_ge w3 (m + 1) 0 5
        have HTXT := Nu.hid hTXT
        have kb' := kb w3 ⟨TX.toArray⟩
        rw [hsz] at kb'
        clear hTXT kb
        have hBS := Lib.bytesWorld_size w3 5 ⟨TX.toArray⟩
        have HBW := Nu.hid (Lib.bytesWorld_below w3 5 ⟨TX.toArray⟩)
        generalize Lib.bytesWorld w3 5 ⟨TX.toArray⟩ = w4 at *
        have hBl : w3.heap.size < w4.heap.size := by omega
        clear hBS
        go_wp2_with (go_at_call 10; refine (scan_any _ (m + 1) _ (Nu.ofBytes TX) _ HTXT.out (by intro x hx; cases hx; exact hBl) (by unfold maxLen; omega) hcapb).mono ?_; refine Hid.out ?_)
        refine Nu.hid ?_
        rintro e w5 ⟨hb5, hx⟩
        have HB5 := Nu.hid (((HB3.out.trans (HBW.out.mono HB3.out.size))).trans (hb5.mono (by have := HB3.out.size; omega)))
        have HI5 := Nu.hid (((HI3.out.later HBW.out)).later hb5)
        clear hb5
        rcases hx with ⟨hn, _⟩ | ⟨_, x, hsx, _⟩ | ⟨_, ts, T, hsx, rfl, hT, hrow⟩
        · omega
        · rw [HSC.out] at hsx; cases hsx
        rw [HSC.out] at hsx
        cases hsx
        have htl := Nu.toksFrom_length (z := z) (n := n) n
        have hsl := hrow.slice
        rw [htl] at hsl ⊢
        clear htl
        have CT : ∀ j, j < n → At4 w5 T j 1 (Nu.startOf z j) ((rowTo z (j + 1)).length) (z j) := fun j hj => by
          have h := at4_of hsl (Nu.toksFrom_get (z := z) (n := n) n j (Nat.le_refl _) hj)
          rw [Nat.sub_self, Nat.zero_add] at h
          exact h
        have CL : At4 w5 T n 2 m ((m : Int) + 1) 0 := by
          have h := at4_of hsl (Nu.toksFrom_line (z := z) (n := n) n)
          rw [← HM.out] at h
          exact h
        have CE : At4 w5 T (n + 1) 3 ((m : Int) + 1) ((m : Int) + 1) 0 := by
          have h := at4_of hsl (Nu.toksFrom_last (z := z) (n := n) n)
          rw [← HM.out] at h
          exact h
        have HCT := Nu.hid CT
        have HCL := Nu.hid CL
        have HCE := Nu.hid CE
        have hTLr : TX.length = m + 1 := HTL.out
        have jn : ((n : Int) + 2 != (n : Int) + 2) = false := by simp
        clear CT CL CE hsl hrow kb'
        go_wp2
        go_loopw [9, 10] (fun a c wr => ∃ j : Nat, j ≤ n ∧ c = .int .i64 j ∧ a = .int .i64 (Nu.startOf z j) ∧ Below w5.heap.size w5 wr) (fun _ c _ => n - (intOf c).toNat)
        case atStart => exact ⟨0, Nat.zero_le _, rfl, rfl, Below.refl _ _⟩
        case round =>
          obtain ⟨j, hj, rfl, rfl, hbj⟩ := hrel
          by_cases hjn : j < n
          · have hjni : (j : Int) < (n : Int) := by omega
            have hjn2 : (j : Int) < (n : Int) + 2 := by omega
            have hj0 : (0 : Int) ≤ (j : Int) := by omega
            obtain ⟨x0, x1, x2, x3⟩ := (HCT.out j hjn).later hbj
            obtain ⟨⟨b0, b1⟩, lb, lo, hao, cl⟩ := (HI5.out.later hbj) j hjn
            obtain ⟨z9a, z9b⟩ := HFO.out j hjn
            have hcut := cut_row (z := z) hjn
            rw [← HTX1.out] at hcut
            have hqr : Nu.startOf z j ≤ (rowTo z (j + 1)).length := by rw [Nu.rowTo_succ]; omega
            have hrm : (rowTo z (j + 1)).length ≤ m := by rw [HM.out]; exact Nu.row_mono (by omega)
            have hst : Nu.startOf z (j + 1) = (rowTo z (j + 1)).length + 1 := by simp [Nu.startOf]
            have HST := Nu.hid hst
            clear hst
            generalize Nu.startOf z j = q at *
            generalize (rowTo z (j + 1)).length = r at *
            generalize z j = x at *
            subst hao
            have hTl : T < wr.heap.size := block_lt_of_cell x0
            have hll : lb < wr.heap.size := block_lt_of_cell cl
            obtain ⟨L, hL⟩ : ∃ L, L = Lib.itoa x := ⟨_, rfl⟩
            have V := fun (W : World) (h : Tab W) => text_any x b0 b1 W h
            rw [← hL] at hcut V
            have HV := Nu.hid V
            have HCUT := Nu.hid hcut
            have hex : (⟨TX.toArray⟩ : ByteArray).extract q r = ⟨L.toArray⟩ := by
              rw [Lib.extract_eq, ← hcut]
            clear V hL hcut
            have HTW := HTAB.out.below (HB5.out.trans (hbj.mono HB5.out.size))
            have LN : LeansB wr.heap.size lb lo j q r x (wr.alloc (.cells #[.int .i64 1, .int .i64 q, .int .i64 r, .int .i64 x] 39)) :=
              ⟨by simp [World.cell?_alloc_at], by simp [World.cell?_alloc_at], by simp [World.cell?_alloc_at], by simp [World.cell?_alloc_at], (World.grownBy_alloc wr _ none).cell cl (by simp), HTW.below ((Below.refl _ _).alloc (Nat.le_refl _) _)⟩
            have HLN := Nu.hid LN
            have f1 : ¬ ((r : Int) < (q : Int)) := by omega
            have f2 : ¬ ((m : Int) + 1 < (r : Int)) := by omega
            have i1 : (q : Int) ≤ (r : Int) := by omega
            have i2 : (r : Int) ≤ (m : Int) + 1 := by omega
            have i3 : (0 : Int) ≤ (q : Int) := by omega
            clear LN HTW
            go_wp2_with fail
            refine wp_region_noPanic ?_
            refine wp_region_held_drew (S := LeansB wr.heap.size lb lo j q r x) (by kernel_rfl) HLN.out.drew (fun hHeld => ?_)
            refine wpAnyH_take (i := 0) (oi := { dst := some 72, op := Op.fieldAddr 39 (Operand.tmp 11) 0, type := 0, pos := "law.go:57", after := #[], guard := none }) (v := .pointer (some ⟨wr.heap.size, 0, none⟩)) rfl (by kernel_rfl) (by kernel_rfl) (by kernel_rfl) (fun _ _ _ h => h) (Or.inl ⟨by rfl, fun W hW => ?_⟩) hHeld ?_
            · obtain ⟨c0, c1, c2, c3, c4, -⟩ := hW
              go_simp
            try simp only [Act.put, List.setIfInBounds_toArray, List.set_cons_zero, List.set_cons_succ]
            refine wpAnyH_take (i := 1) (oi := { dst := some 73, op := Op.load 37 (Operand.tmp 72), type := 37, pos := "law.go:57", after := #[{ on := 0, ground := Ground.data }], guard := none }) (v := .int .i64 1) rfl (by kernel_rfl) (by kernel_rfl) (by kernel_rfl) (fun _ _ _ h => h) (Or.inl ⟨by rfl, fun W hW => ?_⟩) hHeld ?_
            · obtain ⟨c0, c1, c2, c3, c4, -⟩ := hW
              go_simp
            try simp only [Act.put, List.setIfInBounds_toArray, List.set_cons_zero, List.set_cons_succ]
            refine wpAnyH_take (i := 2) (oi := { dst := some 74, op := Op.binOp BinOp.neq 37 (Operand.tmp 73) (Operand.const (Value.int IntKind.i64 1)) 37, type := 4, pos := "law.go:57", after := #[{ on := 1, ground := Ground.data }], guard := none }) (v := .bool false) rfl (by kernel_rfl) (by kernel_rfl) (by kernel_rfl) (fun _ _ _ h => h) (Or.inl ⟨by rfl, fun W hW => ?_⟩) hHeld ?_
            · obtain ⟨c0, c1, c2, c3, c4, -⟩ := hW
              go_simp
            try simp only [Act.put, List.setIfInBounds_toArray, List.set_cons_zero, List.set_cons_succ]
            refine wpAnyH_take (i := 3) (oi := { dst := some 75, op := Op.move (Operand.tmp 74), type := 4, pos := "law.go:57", after := #[{ on := 2, ground := Ground.data }], guard := none }) (v := .bool false) rfl (by kernel_rfl) (by kernel_rfl) (by kernel_rfl) (fun _ _ _ h => h) (Or.inl ⟨by rfl, fun W hW => ?_⟩) hHeld ?_
            · obtain ⟨c0, c1, c2, c3, c4, -⟩ := hW
              go_simp
            try simp only [Act.put, List.setIfInBounds_toArray, List.set_cons_zero, List.set_cons_succ]
            refine wpAnyH_take (i := 4) (oi := { dst := some 76, op := Op.fieldAddr 39 (Operand.tmp 11) 3, type := 0, pos := "law.go:57", after := #[{ on := 3, ground := Ground.guard }], guard := some (3, false) }) (v := .pointer (some ⟨wr.heap.size, 3, none⟩)) rfl (by kernel_rfl) (by kernel_rfl) (by kernel_rfl) (fun _ _ _ h => h) (Or.inl ⟨by rfl, fun W hW => ?_⟩) hHeld ?_
            · obtain ⟨c0, c1, c2, c3, c4, -⟩ := hW
              go_simp
            try simp only [Act.put, List.setIfInBounds_toArray, List.set_cons_zero, List.set_cons_succ]
            refine wpAnyH_take (i := 5) (oi := { dst := some 77, op := Op.load 3 (Operand.tmp 76), type := 3, pos := "law.go:57", after := #[{ on := 4, ground := Ground.data }, { on := 3, ground := Ground.guard }], guard := some (3, false) }) (v := .int .i64 x) rfl (by kernel_rfl) (by kernel_rfl) (by kernel_rfl) (fun _ _ _ h => h) (Or.inl ⟨by rfl, fun W hW => ?_⟩) hHeld ?_
            · obtain ⟨c0, c1, c2, c3, c4, -⟩ := hW
              go_simp
            try simp only [Act.put, List.setIfInBounds_toArray, List.set_cons_zero, List.set_cons_succ]
            refine wpAnyH_take (i := 6) (oi := { dst := some 78, op := Op.move (Operand.tmp 3), type := 32, pos := "law.go:57", after := #[{ on := 3, ground := Ground.guard }], guard := some (3, false) }) (v := .slice (some ⟨lb, lo, none⟩) n c) rfl (by kernel_rfl) (by kernel_rfl) (by kernel_rfl) (fun _ _ _ h => h) (Or.inl ⟨by rfl, fun W hW => ?_⟩) hHeld ?_
            · obtain ⟨c0, c1, c2, c3, c4, -⟩ := hW
              go_simp
            try simp only [Act.put, List.setIfInBounds_toArray, List.set_cons_zero, List.set_cons_succ]
            refine wpAnyH_take (i := 7) (oi := { dst := some 79, op := Op.move (Operand.tmp 10), type := 3, pos := "law.go:57", after := #[{ on := 3, ground := Ground.guard }], guard := some (3, false) }) (v := .int .i64 j) rfl (by kernel_rfl) (by kernel_rfl) (by kernel_rfl) (fun _ _ _ h => h) (Or.inl ⟨by rfl, fun W hW => ?_⟩) hHeld ?_
            · obtain ⟨c0, c1, c2, c3, c4, -⟩ := hW
              go_simp
            try simp only [Act.put, List.setIfInBounds_toArray, List.set_cons_zero, List.set_cons_succ]
            refine wpAnyH_take (i := 8) (oi := { dst := some 80, op := Op.indexAddr 32 (Operand.tmp 78) (Operand.tmp 79), type := 0, pos := "law.go:57", after := #[{ on := 6, ground := Ground.data }, { on := 7, ground := Ground.data }, { on := 3, ground := Ground.guard }], guard := some (3, false) }) (v := .pointer (some ⟨lb, lo + j, none⟩)) rfl (by kernel_rfl) (by kernel_rfl) (by kernel_rfl) (fun _ _ _ h => h) (Or.inl ⟨by rfl, fun W hW => ?_⟩) hHeld ?_
            · obtain ⟨c0, c1, c2, c3, c4, -⟩ := hW
              go_simp
            try simp only [Act.put, List.setIfInBounds_toArray, List.set_cons_zero, List.set_cons_succ]
            refine wpAnyH_take (i := 9) (oi := { dst := some 81, op := Op.load 3 (Operand.tmp 80), type := 3, pos := "law.go:57", after := #[{ on := 8, ground := Ground.data }, { on := 3, ground := Ground.guard }], guard := some (3, false) }) (v := .int .i64 x) rfl (by kernel_rfl) (by kernel_rfl) (by kernel_rfl) (fun _ _ _ h => h) (Or.inl ⟨by rfl, fun W hW => ?_⟩) hHeld ?_
            · obtain ⟨c0, c1, c2, c3, c4, -⟩ := hW
              go_simp
            try simp only [Act.put, List.setIfInBounds_toArray, List.set_cons_zero, List.set_cons_succ]
            refine wpAnyH_take (i := 10) (oi := { dst := some 82, op := Op.binOp BinOp.neq 3 (Operand.tmp 77) (Operand.tmp 81) 3, type := 4, pos := "law.go:57", after := #[{ on := 5, ground := Ground.data }, { on := 9, ground := Ground.data }, { on := 3, ground := Ground.guard }], guard := some (3, false) }) (v := .bool false) rfl (by kernel_rfl) (by kernel_rfl) (by kernel_rfl) (fun _ _ _ h => h) (Or.inl ⟨by rfl, fun W hW => ?_⟩) hHeld ?_
            · obtain ⟨c0, c1, c2, c3, c4, -⟩ := hW
              go_simp
            try simp only [Act.put, List.setIfInBounds_toArray, List.set_cons_zero, List.set_cons_succ]
            refine wpAnyH_take (i := 11) (oi := { dst := some 83, op := Op.pick (Operand.tmp 75) (Operand.const (Value.bool true)) (Operand.tmp 82), type := 4, pos := "law.go:57", after := #[{ on := 3, ground := Ground.data }, { on := 10, ground := Ground.data }], guard := none }) (v := .bool false) rfl (by kernel_rfl) (by kernel_rfl) (by kernel_rfl) (fun _ _ _ h => h) (Or.inl ⟨by rfl, fun W hW => ?_⟩) hHeld ?_
            · obtain ⟨c0, c1, c2, c3, c4, -⟩ := hW
              go_simp
            try simp only [Act.put, List.setIfInBounds_toArray, List.set_cons_zero, List.set_cons_succ]
            refine wpAnyH_take (i := 12) (oi := { dst := some 84, op := Op.move (Operand.tmp 83), type := 4, pos := "law.go:57", after := #[{ on := 11, ground := Ground.data }, { on := 3, ground := Ground.chain }], guard := none }) (v := .bool false) rfl (by kernel_rfl) (by kernel_rfl) (by kernel_rfl) (fun _ _ _ h => h) (Or.inl ⟨by rfl, fun W hW => ?_⟩) hHeld ?_
            · obtain ⟨c0, c1, c2, c3, c4, -⟩ := hW
              go_simp
            try simp only [Act.put, List.setIfInBounds_toArray, List.set_cons_zero, List.set_cons_succ]
            refine wpAnyH_take (i := 13) (oi := { dst := some 85, op := Op.fieldAddr 39 (Operand.tmp 11) 1, type := 0, pos := "law.go:57", after := #[{ on := 12, ground := Ground.guard }], guard := some (12, false) }) (v := .pointer (some ⟨wr.heap.size, 1, none⟩)) rfl (by kernel_rfl) (by kernel_rfl) (by kernel_rfl) (fun _ _ _ h => h) (Or.inl ⟨by rfl, fun W hW => ?_⟩) hHeld ?_
            · obtain ⟨c0, c1, c2, c3, c4, -⟩ := hW
              go_simp
            try simp only [Act.put, List.setIfInBounds_toArray, List.set_cons_zero, List.set_cons_succ]
            refine wpAnyH_take (i := 14) (oi := { dst := some 86, op := Op.load 3 (Operand.tmp 85), type := 3, pos := "law.go:57", after := #[{ on := 13, ground := Ground.data }, { on := 12, ground := Ground.guard }], guard := some (12, false) }) (v := .int .i64 q) rfl (by kernel_rfl) (by kernel_rfl) (by kernel_rfl) (fun _ _ _ h => h) (Or.inl ⟨by rfl, fun W hW => ?_⟩) hHeld ?_
            · obtain ⟨c0, c1, c2, c3, c4, -⟩ := hW
              go_simp
            try simp only [Act.put, List.setIfInBounds_toArray, List.set_cons_zero, List.set_cons_succ]
            refine wpAnyH_take (i := 15) (oi := { dst := some 87, op := Op.move (Operand.tmp 9), type := 3, pos := "law.go:57", after := #[{ on := 12, ground := Ground.guard }], guard := some (12, false) }) (v := .int .i64 q) rfl (by kernel_rfl) (by kernel_rfl) (by kernel_rfl) (fun _ _ _ h => h) (Or.inl ⟨by rfl, fun W hW => ?_⟩) hHeld ?_
            · obtain ⟨c0, c1, c2, c3, c4, -⟩ := hW
              go_simp
            try simp only [Act.put, List.setIfInBounds_toArray, List.set_cons_zero, List.set_cons_succ]
            refine wpAnyH_take (i := 16) (oi := { dst := some 88, op := Op.binOp BinOp.neq 3 (Operand.tmp 86) (Operand.tmp 87) 3, type := 4, pos := "law.go:57", after := #[{ on := 14, ground := Ground.data }, { on := 15, ground := Ground.data }, { on := 12, ground := Ground.guard }], guard := some (12, false) }) (v := .bool false) rfl (by kernel_rfl) (by kernel_rfl) (by kernel_rfl) (fun _ _ _ h => h) (Or.inl ⟨by rfl, fun W hW => ?_⟩) hHeld ?_
            · obtain ⟨c0, c1, c2, c3, c4, -⟩ := hW
              go_simp
            try simp only [Act.put, List.setIfInBounds_toArray, List.set_cons_zero, List.set_cons_succ]
            refine wpAnyH_take (i := 17) (oi := { dst := some 89, op := Op.pick (Operand.tmp 84) (Operand.const (Value.bool true)) (Operand.tmp 88), type := 4, pos := "law.go:57", after := #[{ on := 12, ground := Ground.data }, { on := 16, ground := Ground.data }], guard := none }) (v := .bool false) rfl (by kernel_rfl) (by kernel_rfl) (by kernel_rfl) (fun _ _ _ h => h) (Or.inl ⟨by rfl, fun W hW => ?_⟩) hHeld ?_
            · obtain ⟨c0, c1, c2, c3, c4, -⟩ := hW
              go_simp
            try simp only [Act.put, List.setIfInBounds_toArray, List.set_cons_zero, List.set_cons_succ]
            refine wpAnyH_take (i := 18) (oi := { dst := some 90, op := Op.move (Operand.tmp 89), type := 4, pos := "law.go:57", after := #[{ on := 17, ground := Ground.data }, { on := 12, ground := Ground.chain }], guard := none }) (v := .bool false) rfl (by kernel_rfl) (by kernel_rfl) (by kernel_rfl) (fun _ _ _ h => h) (Or.inl ⟨by rfl, fun W hW => ?_⟩) hHeld ?_
            · obtain ⟨c0, c1, c2, c3, c4, -⟩ := hW
              go_simp
            try simp only [Act.put, List.setIfInBounds_toArray, List.set_cons_zero, List.set_cons_succ]
            refine wpAnyH_take (i := 19) (oi := { dst := some 91, op := Op.fieldAddr 39 (Operand.tmp 11) 2, type := 0, pos := "law.go:57", after := #[{ on := 18, ground := Ground.guard }], guard := some (18, false) }) (v := .pointer (some ⟨wr.heap.size, 2, none⟩)) rfl (by kernel_rfl) (by kernel_rfl) (by kernel_rfl) (fun _ _ _ h => h) (Or.inl ⟨by rfl, fun W hW => ?_⟩) hHeld ?_
            · obtain ⟨c0, c1, c2, c3, c4, -⟩ := hW
              go_simp
            try simp only [Act.put, List.setIfInBounds_toArray, List.set_cons_zero, List.set_cons_succ]
            refine wpAnyH_take (i := 20) (oi := { dst := some 92, op := Op.load 3 (Operand.tmp 91), type := 3, pos := "law.go:57", after := #[{ on := 19, ground := Ground.data }, { on := 18, ground := Ground.guard }], guard := some (18, false) }) (v := .int .i64 r) rfl (by kernel_rfl) (by kernel_rfl) (by kernel_rfl) (fun _ _ _ h => h) (Or.inl ⟨by rfl, fun W hW => ?_⟩) hHeld ?_
            · obtain ⟨c0, c1, c2, c3, c4, -⟩ := hW
              go_simp
            try simp only [Act.put, List.setIfInBounds_toArray, List.set_cons_zero, List.set_cons_succ]
            refine wpAnyH_take (i := 21) (oi := { dst := some 93, op := Op.fieldAddr 39 (Operand.tmp 11) 1, type := 0, pos := "law.go:57", after := #[{ on := 18, ground := Ground.guard }], guard := some (18, false) }) (v := .pointer (some ⟨wr.heap.size, 1, none⟩)) rfl (by kernel_rfl) (by kernel_rfl) (by kernel_rfl) (fun _ _ _ h => h) (Or.inl ⟨by rfl, fun W hW => ?_⟩) hHeld ?_
            · obtain ⟨c0, c1, c2, c3, c4, -⟩ := hW
              go_simp
            try simp only [Act.put, List.setIfInBounds_toArray, List.set_cons_zero, List.set_cons_succ]
            refine wpAnyH_take (i := 22) (oi := { dst := some 94, op := Op.load 3 (Operand.tmp 93), type := 3, pos := "law.go:57", after := #[{ on := 21, ground := Ground.data }, { on := 18, ground := Ground.guard }], guard := some (18, false) }) (v := .int .i64 q) rfl (by kernel_rfl) (by kernel_rfl) (by kernel_rfl) (fun _ _ _ h => h) (Or.inl ⟨by rfl, fun W hW => ?_⟩) hHeld ?_
            · obtain ⟨c0, c1, c2, c3, c4, -⟩ := hW
              go_simp
            try simp only [Act.put, List.setIfInBounds_toArray, List.set_cons_zero, List.set_cons_succ]
            refine wpAnyH_take (i := 23) (oi := { dst := some 95, op := Op.binOp BinOp.lss 3 (Operand.tmp 92) (Operand.tmp 94) 3, type := 4, pos := "law.go:57", after := #[{ on := 20, ground := Ground.data }, { on := 22, ground := Ground.data }, { on := 18, ground := Ground.guard }], guard := some (18, false) }) (v := .bool false) rfl (by kernel_rfl) (by kernel_rfl) (by kernel_rfl) (fun _ _ _ h => h) (Or.inl ⟨by rfl, fun W hW => ?_⟩) hHeld ?_
            · obtain ⟨c0, c1, c2, c3, c4, -⟩ := hW
              go_simp
            try simp only [Act.put, List.setIfInBounds_toArray, List.set_cons_zero, List.set_cons_succ]
            refine wpAnyH_take (i := 24) (oi := { dst := some 96, op := Op.pick (Operand.tmp 90) (Operand.const (Value.bool true)) (Operand.tmp 95), type := 4, pos := "law.go:57", after := #[{ on := 18, ground := Ground.data }, { on := 23, ground := Ground.data }], guard := none }) (v := .bool false) rfl (by kernel_rfl) (by kernel_rfl) (by kernel_rfl) (fun _ _ _ h => h) (Or.inl ⟨by rfl, fun W hW => ?_⟩) hHeld ?_
            · obtain ⟨c0, c1, c2, c3, c4, -⟩ := hW
              go_simp
            try simp only [Act.put, List.setIfInBounds_toArray, List.set_cons_zero, List.set_cons_succ]
            refine wpAnyH_take (i := 25) (oi := { dst := some 97, op := Op.move (Operand.tmp 96), type := 4, pos := "law.go:57", after := #[{ on := 24, ground := Ground.data }, { on := 18, ground := Ground.chain }], guard := none }) (v := .bool false) rfl (by kernel_rfl) (by kernel_rfl) (by kernel_rfl) (fun _ _ _ h => h) (Or.inl ⟨by rfl, fun W hW => ?_⟩) hHeld ?_
            · obtain ⟨c0, c1, c2, c3, c4, -⟩ := hW
              go_simp
            try simp only [Act.put, List.setIfInBounds_toArray, List.set_cons_zero, List.set_cons_succ]
            refine wpAnyH_take (i := 26) (oi := { dst := some 98, op := Op.fieldAddr 39 (Operand.tmp 11) 2, type := 0, pos := "law.go:57", after := #[{ on := 25, ground := Ground.guard }], guard := some (25, false) }) (v := .pointer (some ⟨wr.heap.size, 2, none⟩)) rfl (by kernel_rfl) (by kernel_rfl) (by kernel_rfl) (fun _ _ _ h => h) (Or.inl ⟨by rfl, fun W hW => ?_⟩) hHeld ?_
            · obtain ⟨c0, c1, c2, c3, c4, -⟩ := hW
              go_simp
            try simp only [Act.put, List.setIfInBounds_toArray, List.set_cons_zero, List.set_cons_succ]
            refine wpAnyH_take (i := 27) (oi := { dst := some 99, op := Op.load 3 (Operand.tmp 98), type := 3, pos := "law.go:57", after := #[{ on := 26, ground := Ground.data }, { on := 25, ground := Ground.guard }], guard := some (25, false) }) (v := .int .i64 r) rfl (by kernel_rfl) (by kernel_rfl) (by kernel_rfl) (fun _ _ _ h => h) (Or.inl ⟨by rfl, fun W hW => ?_⟩) hHeld ?_
            · obtain ⟨c0, c1, c2, c3, c4, -⟩ := hW
              go_simp
            try simp only [Act.put, List.setIfInBounds_toArray, List.set_cons_zero, List.set_cons_succ]
            refine wpAnyH_take (i := 28) (oi := { dst := some 100, op := Op.move (Operand.tmp 5), type := 9, pos := "law.go:57", after := #[{ on := 25, ground := Ground.guard }], guard := some (25, false) }) (v := .string ⟨TX.toArray⟩) rfl (by kernel_rfl) (by kernel_rfl) (by kernel_rfl) (fun _ _ _ h => h) (Or.inl ⟨by rfl, fun W hW => ?_⟩) hHeld ?_
            · obtain ⟨c0, c1, c2, c3, c4, -⟩ := hW
              go_simp
            try simp only [Act.put, List.setIfInBounds_toArray, List.set_cons_zero, List.set_cons_succ]
            refine wpAnyH_take (i := 29) (oi := { dst := some 101, op := Op.call { callee := Callee.builtin Builtin.len, args := #[Operand.tmp 100], argTypes := #[9] }, type := 3, pos := "law.go:57", after := #[{ on := 28, ground := Ground.data }, { on := 25, ground := Ground.guard }], guard := some (25, false) }) (v := .int .i64 ((m : Int) + 1)) rfl (by kernel_rfl) (by kernel_rfl) (by kernel_rfl) (fun _ _ _ h => h) (Or.inl ⟨by rfl, fun W hW => ?_⟩) hHeld ?_
            · obtain ⟨c0, c1, c2, c3, c4, -⟩ := hW
              go_simp
            try simp only [Act.put, List.setIfInBounds_toArray, List.set_cons_zero, List.set_cons_succ]
            refine wpAnyH_take (i := 30) (oi := { dst := some 102, op := Op.binOp BinOp.gtr 3 (Operand.tmp 99) (Operand.tmp 101) 3, type := 4, pos := "law.go:57", after := #[{ on := 27, ground := Ground.data }, { on := 29, ground := Ground.data }, { on := 25, ground := Ground.guard }], guard := some (25, false) }) (v := .bool false) rfl (by kernel_rfl) (by kernel_rfl) (by kernel_rfl) (fun _ _ _ h => h) (Or.inl ⟨by rfl, fun W hW => ?_⟩) hHeld ?_
            · obtain ⟨c0, c1, c2, c3, c4, -⟩ := hW
              go_simp
            try simp only [Act.put, List.setIfInBounds_toArray, List.set_cons_zero, List.set_cons_succ]
            refine wpAnyH_take (i := 31) (oi := { dst := some 103, op := Op.pick (Operand.tmp 97) (Operand.const (Value.bool true)) (Operand.tmp 102), type := 4, pos := "law.go:57", after := #[{ on := 25, ground := Ground.data }, { on := 30, ground := Ground.data }], guard := none }) (v := .bool false) rfl (by kernel_rfl) (by kernel_rfl) (by kernel_rfl) (fun _ _ _ h => h) (Or.inl ⟨by rfl, fun W hW => ?_⟩) hHeld ?_
            · obtain ⟨c0, c1, c2, c3, c4, -⟩ := hW
              go_simp
            try simp only [Act.put, List.setIfInBounds_toArray, List.set_cons_zero, List.set_cons_succ]
            refine wpAnyH_take (i := 32) (oi := { dst := some 104, op := Op.move (Operand.tmp 103), type := 4, pos := "law.go:57", after := #[{ on := 31, ground := Ground.data }, { on := 25, ground := Ground.chain }], guard := none }) (v := .bool false) rfl (by kernel_rfl) (by kernel_rfl) (by kernel_rfl) (fun _ _ _ h => h) (Or.inl ⟨by rfl, fun W hW => ?_⟩) hHeld ?_
            · obtain ⟨c0, c1, c2, c3, c4, -⟩ := hW
              go_simp
            try simp only [Act.put, List.setIfInBounds_toArray, List.set_cons_zero, List.set_cons_succ]
            refine wpAnyH_take (i := 33) (oi := { dst := some 105, op := Op.move (Operand.tmp 5), type := 9, pos := "law.go:57", after := #[{ on := 32, ground := Ground.guard }], guard := some (32, false) }) (v := .string ⟨TX.toArray⟩) rfl (by kernel_rfl) (by kernel_rfl) (by kernel_rfl) (fun _ _ _ h => h) (Or.inl ⟨by rfl, fun W hW => ?_⟩) hHeld ?_
            · obtain ⟨c0, c1, c2, c3, c4, -⟩ := hW
              go_simp
            try simp only [Act.put, List.setIfInBounds_toArray, List.set_cons_zero, List.set_cons_succ]
            refine wpAnyH_take (i := 34) (oi := { dst := some 106, op := Op.fieldAddr 39 (Operand.tmp 11) 1, type := 0, pos := "law.go:57", after := #[{ on := 32, ground := Ground.guard }], guard := some (32, false) }) (v := .pointer (some ⟨wr.heap.size, 1, none⟩)) rfl (by kernel_rfl) (by kernel_rfl) (by kernel_rfl) (fun _ _ _ h => h) (Or.inl ⟨by rfl, fun W hW => ?_⟩) hHeld ?_
            · obtain ⟨c0, c1, c2, c3, c4, -⟩ := hW
              go_simp
            try simp only [Act.put, List.setIfInBounds_toArray, List.set_cons_zero, List.set_cons_succ]
            refine wpAnyH_take (i := 35) (oi := { dst := some 107, op := Op.load 3 (Operand.tmp 106), type := 3, pos := "law.go:57", after := #[{ on := 34, ground := Ground.data }, { on := 32, ground := Ground.guard }], guard := some (32, false) }) (v := .int .i64 q) rfl (by kernel_rfl) (by kernel_rfl) (by kernel_rfl) (fun _ _ _ h => h) (Or.inl ⟨by rfl, fun W hW => ?_⟩) hHeld ?_
            · obtain ⟨c0, c1, c2, c3, c4, -⟩ := hW
              go_simp
            try simp only [Act.put, List.setIfInBounds_toArray, List.set_cons_zero, List.set_cons_succ]
            refine wpAnyH_take (i := 36) (oi := { dst := some 108, op := Op.fieldAddr 39 (Operand.tmp 11) 2, type := 0, pos := "law.go:57", after := #[{ on := 32, ground := Ground.guard }], guard := some (32, false) }) (v := .pointer (some ⟨wr.heap.size, 2, none⟩)) rfl (by kernel_rfl) (by kernel_rfl) (by kernel_rfl) (fun _ _ _ h => h) (Or.inl ⟨by rfl, fun W hW => ?_⟩) hHeld ?_
            · obtain ⟨c0, c1, c2, c3, c4, -⟩ := hW
              go_simp
            try simp only [Act.put, List.setIfInBounds_toArray, List.set_cons_zero, List.set_cons_succ]
            refine wpAnyH_take (i := 37) (oi := { dst := some 109, op := Op.load 3 (Operand.tmp 108), type := 3, pos := "law.go:57", after := #[{ on := 36, ground := Ground.data }, { on := 32, ground := Ground.guard }], guard := some (32, false) }) (v := .int .i64 r) rfl (by kernel_rfl) (by kernel_rfl) (by kernel_rfl) (fun _ _ _ h => h) (Or.inl ⟨by rfl, fun W hW => ?_⟩) hHeld ?_
            · obtain ⟨c0, c1, c2, c3, c4, -⟩ := hW
              go_simp
            try simp only [Act.put, List.setIfInBounds_toArray, List.set_cons_zero, List.set_cons_succ]
            refine wpAnyH_take (i := 38) (oi := { dst := some 110, op := Op.slice 9 (Operand.tmp 105) (some (Operand.tmp 107)) (some (Operand.tmp 109)) none, type := 9, pos := "law.go:57", after := #[{ on := 33, ground := Ground.data }, { on := 35, ground := Ground.data }, { on := 37, ground := Ground.data }, { on := 32, ground := Ground.guard }], guard := some (32, false) }) (v := .string ⟨L.toArray⟩) rfl (by kernel_rfl) (by kernel_rfl) (by kernel_rfl) (fun _ _ _ h => h) (Or.inl ⟨by rfl, fun W hW => ?_⟩) hHeld ?_
            · obtain ⟨c0, c1, c2, c3, c4, -⟩ := hW
              go_simp
            try simp only [Act.put, List.setIfInBounds_toArray, List.set_cons_zero, List.set_cons_succ]
            refine wpAnyH_take (i := 39) (oi := { dst := some 111, op := Op.move (Operand.tmp 3), type := 32, pos := "law.go:57", after := #[{ on := 32, ground := Ground.guard }], guard := some (32, false) }) (v := .slice (some ⟨lb, lo, none⟩) n c) rfl (by kernel_rfl) (by kernel_rfl) (by kernel_rfl) (fun _ _ _ h => h) (Or.inl ⟨by rfl, fun W hW => ?_⟩) hHeld ?_
            · obtain ⟨c0, c1, c2, c3, c4, -⟩ := hW
              go_simp
            try simp only [Act.put, List.setIfInBounds_toArray, List.set_cons_zero, List.set_cons_succ]
            refine wpAnyH_take (i := 40) (oi := { dst := some 112, op := Op.move (Operand.tmp 10), type := 3, pos := "law.go:57", after := #[{ on := 32, ground := Ground.guard }], guard := some (32, false) }) (v := .int .i64 j) rfl (by kernel_rfl) (by kernel_rfl) (by kernel_rfl) (fun _ _ _ h => h) (Or.inl ⟨by rfl, fun W hW => ?_⟩) hHeld ?_
            · obtain ⟨c0, c1, c2, c3, c4, -⟩ := hW
              go_simp
            try simp only [Act.put, List.setIfInBounds_toArray, List.set_cons_zero, List.set_cons_succ]
            refine wpAnyH_take (i := 41) (oi := { dst := some 113, op := Op.indexAddr 32 (Operand.tmp 111) (Operand.tmp 112), type := 0, pos := "law.go:57", after := #[{ on := 39, ground := Ground.data }, { on := 40, ground := Ground.data }, { on := 32, ground := Ground.guard }], guard := some (32, false) }) (v := .pointer (some ⟨lb, lo + j, none⟩)) rfl (by kernel_rfl) (by kernel_rfl) (by kernel_rfl) (fun _ _ _ h => h) (Or.inl ⟨by rfl, fun W hW => ?_⟩) hHeld ?_
            · obtain ⟨c0, c1, c2, c3, c4, -⟩ := hW
              go_simp
            try simp only [Act.put, List.setIfInBounds_toArray, List.set_cons_zero, List.set_cons_succ]
            refine wpAnyH_take (i := 42) (oi := { dst := some 114, op := Op.load 3 (Operand.tmp 113), type := 3, pos := "law.go:57", after := #[{ on := 41, ground := Ground.data }, { on := 32, ground := Ground.guard }], guard := some (32, false) }) (v := .int .i64 x) rfl (by kernel_rfl) (by kernel_rfl) (by kernel_rfl) (fun _ _ _ h => h) (Or.inl ⟨by rfl, fun W hW => ?_⟩) hHeld ?_
            · obtain ⟨c0, c1, c2, c3, c4, -⟩ := hW
              go_simp
            try simp only [Act.put, List.setIfInBounds_toArray, List.set_cons_zero, List.set_cons_succ]
            refine wpAnyH_ready (rs := [43]) (by kernel_rfl) (by simp) ?_
            refine AllReadyH.cons (o := { dst := some 115, op := Op.call { callee := Callee.value (Operand.func 15), args := #[Operand.tmp 114], argTypes := #[3] }, type := 9, pos := "law.go:57", after := #[{ on := 42, ground := Ground.data }, { on := 32, ground := Ground.chain }, { on := 32, ground := Ground.guard }], guard := some (32, false) }) rfl (fun K hK => ?_) AllReadyH.nil
            go_simp
            refine (HV.out _ (by exact HLN.out.2.2.2.2.2)).mono ?_
            rintro e w' ⟨rfl, hgw⟩
            go_wp2_with fail
            refine hK.out _ _ (HLN.out.drew.grown hgw) (fun hHeld => ?_)
            clear hK K
            try simp only [Act.put, List.setIfInBounds_toArray, List.set_cons_zero, List.set_cons_succ]
            refine wpAnyH_take (i := 44) (oi := { dst := some 116, op := Op.binOp BinOp.neq 9 (Operand.tmp 110) (Operand.tmp 115) 9, type := 4, pos := "law.go:57", after := #[{ on := 38, ground := Ground.data }, { on := 43, ground := Ground.data }, { on := 32, ground := Ground.guard }], guard := some (32, false) }) (v := .bool false) rfl (by kernel_rfl) (by kernel_rfl) (by kernel_rfl) (fun _ _ _ h => h) (Or.inl ⟨by rfl, fun W hW => ?_⟩) hHeld ?_
            · obtain ⟨c0, c1, c2, c3, c4, -⟩ := hW
              go_simp
            try simp only [Act.put, List.setIfInBounds_toArray, List.set_cons_zero, List.set_cons_succ]
            refine wpAnyH_take (i := 45) (oi := { dst := some 117, op := Op.pick (Operand.tmp 104) (Operand.const (Value.bool true)) (Operand.tmp 116), type := 4, pos := "law.go:57", after := #[{ on := 32, ground := Ground.data }, { on := 44, ground := Ground.data }], guard := none }) (v := .bool false) rfl (by kernel_rfl) (by kernel_rfl) (by kernel_rfl) (fun _ _ _ h => h) (Or.inl ⟨by rfl, fun W hW => ?_⟩) hHeld ?_
            · obtain ⟨c0, c1, c2, c3, c4, -⟩ := hW
              go_simp
            try simp only [Act.put, List.setIfInBounds_toArray, List.set_cons_zero, List.set_cons_succ]
            refine wpAnyH_done (by kernel_rfl) ?_ _
            refine NoPanic.normal ?_
            have hgb := (hbj.alloc hbj.size (.cells #[.int .i64 1, .int .i64 q, .int .i64 r, .int .i64 x] 39)).drew.trans ((Below_of_grown hgw).mono (by have := hbj.size; simp; omega))
            obtain ⟨u0, u1, u2', u3, -, -⟩ := hHeld
            clear hgw
            go_wp2
            go_roundw
            case rel =>
              refine ⟨j + 1, by omega, by go_num, ?_, hgb⟩
              rw [HST.out]
              go_num
            case measure => simp [intOf]; omega
          · have hjn2 : ¬ ((j : Int) < (n : Int)) := by omega
            have hjn3 : j = n := by omega
            have HJN := Nu.hid hjn3
            clear hjn3
            obtain ⟨x0, x1, x2, x3⟩ := HCL.out.later hbj
            obtain ⟨y0, y1, y2, y3⟩ := HCE.out.later hbj
            have e0 : (0 : Int) ≤ (n : Int) := by omega
            have e1 : (n : Int) < (n : Int) + 2 := by omega
            have e2 : (n : Int) + 1 < (n : Int) + 2 := by omega
            go_wp2
            go_ret
            exact ⟨rfl, HB5.out.trans (hbj.mono HB5.out.size)⟩
      · have h1 : ¬ ((k : Int) < (len0 : Int)) := by omega
        go_wp2_with (go_at_call 13; refine (HV.out _ HI.out (HTAB.out.below HBR.out)).mono ?_; rintro e w3 ⟨rfl, hb3⟩; refine Hid.out ?_)
        refine Nu.hid ?_
        have HB3 := Nu.hid (HBR.out.trans (hb3.mono HBR.out.size))
        have HI3 := Nu.hid (HI.out.later hb3)
        clear hb3
        have hTXT : HasText (Lib.bytesWorld w3 5 ⟨TX.toArray⟩) (some ⟨w3.heap.size, 0, none⟩) (m + 1) (Nu.ofBytes TX) := fun i hi => by
          have hc := Lib.bytesWorld_cell w3 5 ⟨TX.toArray⟩ i (by rw [hsz]; exact hi)
          refine ⟨?_, w3.heap.size, 0, rfl, ?_⟩
          · unfold Nu.ofBytes
            have := (TX.getD i 0).toNat_lt
            omega
          · rw [Nat.zero_add]
            exact hc
        have hcapb := grownCap_ge w3 (m + 1) 0 5
        have HTXT := Nu.hid hTXT
        have kb' := kb w3 ⟨TX.toArray⟩
        rw [hsz] at kb'
        clear hTXT kb
        have hBS := Lib.bytesWorld_size w3 5 ⟨TX.toArray⟩
        have HBW := Nu.hid (Lib.bytesWorld_below w3 5 ⟨TX.toArray⟩)
        generalize Lib.bytesWorld w3 5 ⟨TX.toArray⟩ = w4 at *
        have hBl : w3.heap.size < w4.heap.size := by omega
        clear hBS
        go_wp2_with (go_at_call 10; refine (scan_any _ (m + 1) _ (Nu.ofBytes TX) _ HTXT.out (by intro x hx; cases hx; exact hBl) (by unfold maxLen; omega) hcapb).mono ?_; refine Hid.out ?_)
        refine Nu.hid ?_
        rintro e w5 ⟨hb5, hx⟩
        have HB5 := Nu.hid (((HB3.out.trans (HBW.out.mono HB3.out.size))).trans (hb5.mono (by have := HB3.out.size; omega)))
        have HI5 := Nu.hid (((HI3.out.later HBW.out)).later hb5)
        clear hb5
        rcases hx with ⟨hn, _⟩ | ⟨_, x, hsx, _⟩ | ⟨_, ts, T, hsx, rfl, hT, hrow⟩
        · omega
        · rw [HSC.out] at hsx; cases hsx
        rw [HSC.out] at hsx
        cases hsx
        have htl := Nu.toksFrom_length (z := z) (n := n) n
        have hsl := hrow.slice
        rw [htl] at hsl ⊢
        clear htl
        have CT : ∀ j, j < n → At4 w5 T j 1 (Nu.startOf z j) ((rowTo z (j + 1)).length) (z j) := fun j hj => by
          have h := at4_of hsl (Nu.toksFrom_get (z := z) (n := n) n j (Nat.le_refl _) hj)
          rw [Nat.sub_self, Nat.zero_add] at h
          exact h
        have CL : At4 w5 T n 2 m ((m : Int) + 1) 0 := by
          have h := at4_of hsl (Nu.toksFrom_line (z := z) (n := n) n)
          rw [← HM.out] at h
          exact h
        have CE : At4 w5 T (n + 1) 3 ((m : Int) + 1) ((m : Int) + 1) 0 := by
          have h := at4_of hsl (Nu.toksFrom_last (z := z) (n := n) n)
          rw [← HM.out] at h
          exact h
        have HCT := Nu.hid CT
        have HCL := Nu.hid CL
        have HCE := Nu.hid CE
        have hTLr : TX.length = m + 1 := HTL.out
        have jn : ((n : Int) + 2 != (n : Int) + 2) = false := by simp
        clear CT CL CE hsl hrow kb'
        go_wp2
        go_loopw [9, 10] (fun a c wr => ∃ j : Nat, j ≤ n ∧ c = .int .i64 j ∧ a = .int .i64 (Nu.startOf z j) ∧ Below w5.heap.size w5 wr) (fun _ c _ => n - (intOf c).toNat)
        case atStart => exact ⟨0, Nat.zero_le _, rfl, rfl, Below.refl _ _⟩
        case round =>
          obtain ⟨j, hj, rfl, rfl, hbj⟩ := hrel
          by_cases hjn : j < n
          · have hjni : (j : Int) < (n : Int) := by omega
            have hjn2 : (j : Int) < (n : Int) + 2 := by omega
            have hj0 : (0 : Int) ≤ (j : Int) := by omega
            obtain ⟨x0, x1, x2, x3⟩ := (HCT.out j hjn).later hbj
            obtain ⟨⟨b0, b1⟩, lb, lo, hao, cl⟩ := (HI5.out.later hbj) j hjn
            obtain ⟨z9a, z9b⟩ := HFO.out j hjn
            have hcut := cut_row (z := z) hjn
            rw [← HTX1.out] at hcut
            have hqr : Nu.startOf z j ≤ (rowTo z (j + 1)).length := by rw [Nu.rowTo_succ]; omega
            have hrm : (rowTo z (j + 1)).length ≤ m := by rw [HM.out]; exact Nu.row_mono (by omega)
            have hst : Nu.startOf z (j + 1) = (rowTo z (j + 1)).length + 1 := by simp [Nu.startOf]
            have HST := Nu.hid hst
            clear hst
            generalize Nu.startOf z j = q at *
            generalize (rowTo z (j + 1)).length = r at *
            generalize z j = x at *
            subst hao
            have hTl : T < wr.heap.size := block_lt_of_cell x0
            have hll : lb < wr.heap.size := block_lt_of_cell cl
            obtain ⟨L, hL⟩ : ∃ L, L = Lib.itoa x := ⟨_, rfl⟩
            have V := fun (W : World) (h : Tab W) => text_any x b0 b1 W h
            rw [← hL] at hcut V
            have HV := Nu.hid V
            have HCUT := Nu.hid hcut
            have hex : (⟨TX.toArray⟩ : ByteArray).extract q r = ⟨L.toArray⟩ := by
              rw [Lib.extract_eq, ← hcut]
            clear V hL hcut
            have HTW := HTAB.out.below (HB5.out.trans (hbj.mono HB5.out.size))
            have LN : LeansB wr.heap.size lb lo j q r x (wr.alloc (.cells #[.int .i64 1, .int .i64 q, .int .i64 r, .int .i64 x] 39)) :=
              ⟨by simp [World.cell?_alloc_at], by simp [World.cell?_alloc_at], by simp [World.cell?_alloc_at], by simp [World.cell?_alloc_at], (World.grownBy_alloc wr _ none).cell cl (by simp), HTW.below ((Below.refl _ _).alloc (Nat.le_refl _) _)⟩
            have HLN := Nu.hid LN
            have f1 : ¬ ((r : Int) < (q : Int)) := by omega
            have f2 : ¬ ((m : Int) + 1 < (r : Int)) := by omega
            have i1 : (q : Int) ≤ (r : Int) := by omega
            have i2 : (r : Int) ≤ (m : Int) + 1 := by omega
            have i3 : (0 : Int) ≤ (q : Int) := by omega
            clear LN HTW
            go_wp2_with fail
            refine wp_region_noPanic ?_
            refine wp_region_held_drew (S := LeansB wr.heap.size lb lo j q r x) (by kernel_rfl) HLN.out.drew (fun hHeld => ?_)
            refine wpAnyH_take (i := 0) (oi := { dst := some 72, op := Op.fieldAddr 39 (Operand.tmp 11) 0, type := 0, pos := "law.go:57", after := #[], guard := none }) (v := .pointer (some ⟨wr.heap.size, 0, none⟩)) rfl (by kernel_rfl) (by kernel_rfl) (by kernel_rfl) (fun _ _ _ h => h) (Or.inl ⟨by rfl, fun W hW => ?_⟩) hHeld ?_
            · obtain ⟨c0, c1, c2, c3, c4, -⟩ := hW
              go_simp
            try simp only [Act.put, List.setIfInBounds_toArray, List.set_cons_zero, List.set_cons_succ]
            refine wpAnyH_take (i := 1) (oi := { dst := some 73, op := Op.load 37 (Operand.tmp 72), type := 37, pos := "law.go:57", after := #[{ on := 0, ground := Ground.data }], guard := none }) (v := .int .i64 1) rfl (by kernel_rfl) (by kernel_rfl) (by kernel_rfl) (fun _ _ _ h => h) (Or.inl ⟨by rfl, fun W hW => ?_⟩) hHeld ?_
            · obtain ⟨c0, c1, c2, c3, c4, -⟩ := hW
              go_simp
            try simp only [Act.put, List.setIfInBounds_toArray, List.set_cons_zero, List.set_cons_succ]
            refine wpAnyH_take (i := 2) (oi := { dst := some 74, op := Op.binOp BinOp.neq 37 (Operand.tmp 73) (Operand.const (Value.int IntKind.i64 1)) 37, type := 4, pos := "law.go:57", after := #[{ on := 1, ground := Ground.data }], guard := none }) (v := .bool false) rfl (by kernel_rfl) (by kernel_rfl) (by kernel_rfl) (fun _ _ _ h => h) (Or.inl ⟨by rfl, fun W hW => ?_⟩) hHeld ?_
            · obtain ⟨c0, c1, c2, c3, c4, -⟩ := hW
              go_simp
            try simp only [Act.put, List.setIfInBounds_toArray, List.set_cons_zero, List.set_cons_succ]
            refine wpAnyH_take (i := 3) (oi := { dst := some 75, op := Op.move (Operand.tmp 74), type := 4, pos := "law.go:57", after := #[{ on := 2, ground := Ground.data }], guard := none }) (v := .bool false) rfl (by kernel_rfl) (by kernel_rfl) (by kernel_rfl) (fun _ _ _ h => h) (Or.inl ⟨by rfl, fun W hW => ?_⟩) hHeld ?_
            · obtain ⟨c0, c1, c2, c3, c4, -⟩ := hW
              go_simp
            try simp only [Act.put, List.setIfInBounds_toArray, List.set_cons_zero, List.set_cons_succ]
            refine wpAnyH_take (i := 4) (oi := { dst := some 76, op := Op.fieldAddr 39 (Operand.tmp 11) 3, type := 0, pos := "law.go:57", after := #[{ on := 3, ground := Ground.guard }], guard := some (3, false) }) (v := .pointer (some ⟨wr.heap.size, 3, none⟩)) rfl (by kernel_rfl) (by kernel_rfl) (by kernel_rfl) (fun _ _ _ h => h) (Or.inl ⟨by rfl, fun W hW => ?_⟩) hHeld ?_
            · obtain ⟨c0, c1, c2, c3, c4, -⟩ := hW
              go_simp
            try simp only [Act.put, List.setIfInBounds_toArray, List.set_cons_zero, List.set_cons_succ]
            refine wpAnyH_take (i := 5) (oi := { dst := some 77, op := Op.load 3 (Operand.tmp 76), type := 3, pos := "law.go:57", after := #[{ on := 4, ground := Ground.data }, { on := 3, ground := Ground.guard }], guard := some (3, false) }) (v := .int .i64 x) rfl (by kernel_rfl) (by kernel_rfl) (by kernel_rfl) (fun _ _ _ h => h) (Or.inl ⟨by rfl, fun W hW => ?_⟩) hHeld ?_
            · obtain ⟨c0, c1, c2, c3, c4, -⟩ := hW
              go_simp
            try simp only [Act.put, List.setIfInBounds_toArray, List.set_cons_zero, List.set_cons_succ]
            refine wpAnyH_take (i := 6) (oi := { dst := some 78, op := Op.move (Operand.tmp 3), type := 32, pos := "law.go:57", after := #[{ on := 3, ground := Ground.guard }], guard := some (3, false) }) (v := .slice (some ⟨lb, lo, none⟩) n c) rfl (by kernel_rfl) (by kernel_rfl) (by kernel_rfl) (fun _ _ _ h => h) (Or.inl ⟨by rfl, fun W hW => ?_⟩) hHeld ?_
            · obtain ⟨c0, c1, c2, c3, c4, -⟩ := hW
              go_simp
            try simp only [Act.put, List.setIfInBounds_toArray, List.set_cons_zero, List.set_cons_succ]
            refine wpAnyH_take (i := 7) (oi := { dst := some 79, op := Op.move (Operand.tmp 10), type := 3, pos := "law.go:57", after := #[{ on := 3, ground := Ground.guard }], guard := some (3, false) }) (v := .int .i64 j) rfl (by kernel_rfl) (by kernel_rfl) (by kernel_rfl) (fun _ _ _ h => h) (Or.inl ⟨by rfl, fun W hW => ?_⟩) hHeld ?_
            · obtain ⟨c0, c1, c2, c3, c4, -⟩ := hW
              go_simp
            try simp only [Act.put, List.setIfInBounds_toArray, List.set_cons_zero, List.set_cons_succ]
            refine wpAnyH_take (i := 8) (oi := { dst := some 80, op := Op.indexAddr 32 (Operand.tmp 78) (Operand.tmp 79), type := 0, pos := "law.go:57", after := #[{ on := 6, ground := Ground.data }, { on := 7, ground := Ground.data }, { on := 3, ground := Ground.guard }], guard := some (3, false) }) (v := .pointer (some ⟨lb, lo + j, none⟩)) rfl (by kernel_rfl) (by kernel_rfl) (by kernel_rfl) (fun _ _ _ h => h) (Or.inl ⟨by rfl, fun W hW => ?_⟩) hHeld ?_
            · obtain ⟨c0, c1, c2, c3, c4, -⟩ := hW
              go_simp
            try simp only [Act.put, List.setIfInBounds_toArray, List.set_cons_zero, List.set_cons_succ]
            refine wpAnyH_take (i := 9) (oi := { dst := some 81, op := Op.load 3 (Operand.tmp 80), type := 3, pos := "law.go:57", after := #[{ on := 8, ground := Ground.data }, { on := 3, ground := Ground.guard }], guard := some (3, false) }) (v := .int .i64 x) rfl (by kernel_rfl) (by kernel_rfl) (by kernel_rfl) (fun _ _ _ h => h) (Or.inl ⟨by rfl, fun W hW => ?_⟩) hHeld ?_
            · obtain ⟨c0, c1, c2, c3, c4, -⟩ := hW
              go_simp
            try simp only [Act.put, List.setIfInBounds_toArray, List.set_cons_zero, List.set_cons_succ]
            refine wpAnyH_take (i := 10) (oi := { dst := some 82, op := Op.binOp BinOp.neq 3 (Operand.tmp 77) (Operand.tmp 81) 3, type := 4, pos := "law.go:57", after := #[{ on := 5, ground := Ground.data }, { on := 9, ground := Ground.data }, { on := 3, ground := Ground.guard }], guard := some (3, false) }) (v := .bool false) rfl (by kernel_rfl) (by kernel_rfl) (by kernel_rfl) (fun _ _ _ h => h) (Or.inl ⟨by rfl, fun W hW => ?_⟩) hHeld ?_
            · obtain ⟨c0, c1, c2, c3, c4, -⟩ := hW
              go_simp
            try simp only [Act.put, List.setIfInBounds_toArray, List.set_cons_zero, List.set_cons_succ]
            refine wpAnyH_take (i := 11) (oi := { dst := some 83, op := Op.pick (Operand.tmp 75) (Operand.const (Value.bool true)) (Operand.tmp 82), type := 4, pos := "law.go:57", after := #[{ on := 3, ground := Ground.data }, { on := 10, ground := Ground.data }], guard := none }) (v := .bool false) rfl (by kernel_rfl) (by kernel_rfl) (by kernel_rfl) (fun _ _ _ h => h) (Or.inl ⟨by rfl, fun W hW => ?_⟩) hHeld ?_
            · obtain ⟨c0, c1, c2, c3, c4, -⟩ := hW
              go_simp
            try simp only [Act.put, List.setIfInBounds_toArray, List.set_cons_zero, List.set_cons_succ]
            refine wpAnyH_take (i := 12) (oi := { dst := some 84, op := Op.move (Operand.tmp 83), type := 4, pos := "law.go:57", after := #[{ on := 11, ground := Ground.data }, { on := 3, ground := Ground.chain }], guard := none }) (v := .bool false) rfl (by kernel_rfl) (by kernel_rfl) (by kernel_rfl) (fun _ _ _ h => h) (Or.inl ⟨by rfl, fun W hW => ?_⟩) hHeld ?_
            · obtain ⟨c0, c1, c2, c3, c4, -⟩ := hW
              go_simp
            try simp only [Act.put, List.setIfInBounds_toArray, List.set_cons_zero, List.set_cons_succ]
            refine wpAnyH_take (i := 13) (oi := { dst := some 85, op := Op.fieldAddr 39 (Operand.tmp 11) 1, type := 0, pos := "law.go:57", after := #[{ on := 12, ground := Ground.guard }], guard := some (12, false) }) (v := .pointer (some ⟨wr.heap.size, 1, none⟩)) rfl (by kernel_rfl) (by kernel_rfl) (by kernel_rfl) (fun _ _ _ h => h) (Or.inl ⟨by rfl, fun W hW => ?_⟩) hHeld ?_
            · obtain ⟨c0, c1, c2, c3, c4, -⟩ := hW
              go_simp
            try simp only [Act.put, List.setIfInBounds_toArray, List.set_cons_zero, List.set_cons_succ]
            refine wpAnyH_take (i := 14) (oi := { dst := some 86, op := Op.load 3 (Operand.tmp 85), type := 3, pos := "law.go:57", after := #[{ on := 13, ground := Ground.data }, { on := 12, ground := Ground.guard }], guard := some (12, false) }) (v := .int .i64 q) rfl (by kernel_rfl) (by kernel_rfl) (by kernel_rfl) (fun _ _ _ h => h) (Or.inl ⟨by rfl, fun W hW => ?_⟩) hHeld ?_
            · obtain ⟨c0, c1, c2, c3, c4, -⟩ := hW
              go_simp
            try simp only [Act.put, List.setIfInBounds_toArray, List.set_cons_zero, List.set_cons_succ]
            refine wpAnyH_take (i := 15) (oi := { dst := some 87, op := Op.move (Operand.tmp 9), type := 3, pos := "law.go:57", after := #[{ on := 12, ground := Ground.guard }], guard := some (12, false) }) (v := .int .i64 q) rfl (by kernel_rfl) (by kernel_rfl) (by kernel_rfl) (fun _ _ _ h => h) (Or.inl ⟨by rfl, fun W hW => ?_⟩) hHeld ?_
            · obtain ⟨c0, c1, c2, c3, c4, -⟩ := hW
              go_simp
            try simp only [Act.put, List.setIfInBounds_toArray, List.set_cons_zero, List.set_cons_succ]
            refine wpAnyH_take (i := 16) (oi := { dst := some 88, op := Op.binOp BinOp.neq 3 (Operand.tmp 86) (Operand.tmp 87) 3, type := 4, pos := "law.go:57", after := #[{ on := 14, ground := Ground.data }, { on := 15, ground := Ground.data }, { on := 12, ground := Ground.guard }], guard := some (12, false) }) (v := .bool false) rfl (by kernel_rfl) (by kernel_rfl) (by kernel_rfl) (fun _ _ _ h => h) (Or.inl ⟨by rfl, fun W hW => ?_⟩) hHeld ?_
            · obtain ⟨c0, c1, c2, c3, c4, -⟩ := hW
              go_simp
            try simp only [Act.put, List.setIfInBounds_toArray, List.set_cons_zero, List.set_cons_succ]
            refine wpAnyH_take (i := 17) (oi := { dst := some 89, op := Op.pick (Operand.tmp 84) (Operand.const (Value.bool true)) (Operand.tmp 88), type := 4, pos := "law.go:57", after := #[{ on := 12, ground := Ground.data }, { on := 16, ground := Ground.data }], guard := none }) (v := .bool false) rfl (by kernel_rfl) (by kernel_rfl) (by kernel_rfl) (fun _ _ _ h => h) (Or.inl ⟨by rfl, fun W hW => ?_⟩) hHeld ?_
            · obtain ⟨c0, c1, c2, c3, c4, -⟩ := hW
              go_simp
            try simp only [Act.put, List.setIfInBounds_toArray, List.set_cons_zero, List.set_cons_succ]
            refine wpAnyH_take (i := 18) (oi := { dst := some 90, op := Op.move (Operand.tmp 89), type := 4, pos := "law.go:57", after := #[{ on := 17, ground := Ground.data }, { on := 12, ground := Ground.chain }], guard := none }) (v := .bool false) rfl (by kernel_rfl) (by kernel_rfl) (by kernel_rfl) (fun _ _ _ h => h) (Or.inl ⟨by rfl, fun W hW => ?_⟩) hHeld ?_
            · obtain ⟨c0, c1, c2, c3, c4, -⟩ := hW
              go_simp
            try simp only [Act.put, List.setIfInBounds_toArray, List.set_cons_zero, List.set_cons_succ]
            refine wpAnyH_take (i := 19) (oi := { dst := some 91, op := Op.fieldAddr 39 (Operand.tmp 11) 2, type := 0, pos := "law.go:57", after := #[{ on := 18, ground := Ground.guard }], guard := some (18, false) }) (v := .pointer (some ⟨wr.heap.size, 2, none⟩)) rfl (by kernel_rfl) (by kernel_rfl) (by kernel_rfl) (fun _ _ _ h => h) (Or.inl ⟨by rfl, fun W hW => ?_⟩) hHeld ?_
            · obtain ⟨c0, c1, c2, c3, c4, -⟩ := hW
              go_simp
            try simp only [Act.put, List.setIfInBounds_toArray, List.set_cons_zero, List.set_cons_succ]
            refine wpAnyH_take (i := 20) (oi := { dst := some 92, op := Op.load 3 (Operand.tmp 91), type := 3, pos := "law.go:57", after := #[{ on := 19, ground := Ground.data }, { on := 18, ground := Ground.guard }], guard := some (18, false) }) (v := .int .i64 r) rfl (by kernel_rfl) (by kernel_rfl) (by kernel_rfl) (fun _ _ _ h => h) (Or.inl ⟨by rfl, fun W hW => ?_⟩) hHeld ?_
            · obtain ⟨c0, c1, c2, c3, c4, -⟩ := hW
              go_simp
            try simp only [Act.put, List.setIfInBounds_toArray, List.set_cons_zero, List.set_cons_succ]
            refine wpAnyH_take (i := 21) (oi := { dst := some 93, op := Op.fieldAddr 39 (Operand.tmp 11) 1, type := 0, pos := "law.go:57", after := #[{ on := 18, ground := Ground.guard }], guard := some (18, false) }) (v := .pointer (some ⟨wr.heap.size, 1, none⟩)) rfl (by kernel_rfl) (by kernel_rfl) (by kernel_rfl) (fun _ _ _ h => h) (Or.inl ⟨by rfl, fun W hW => ?_⟩) hHeld ?_
            · obtain ⟨c0, c1, c2, c3, c4, -⟩ := hW
              go_simp
            try simp only [Act.put, List.setIfInBounds_toArray, List.set_cons_zero, List.set_cons_succ]
            refine wpAnyH_take (i := 22) (oi := { dst := some 94, op := Op.load 3 (Operand.tmp 93), type := 3, pos := "law.go:57", after := #[{ on := 21, ground := Ground.data }, { on := 18, ground := Ground.guard }], guard := some (18, false) }) (v := .int .i64 q) rfl (by kernel_rfl) (by kernel_rfl) (by kernel_rfl) (fun _ _ _ h => h) (Or.inl ⟨by rfl, fun W hW => ?_⟩) hHeld ?_
            · obtain ⟨c0, c1, c2, c3, c4, -⟩ := hW
              go_simp
            try simp only [Act.put, List.setIfInBounds_toArray, List.set_cons_zero, List.set_cons_succ]
            refine wpAnyH_take (i := 23) (oi := { dst := some 95, op := Op.binOp BinOp.lss 3 (Operand.tmp 92) (Operand.tmp 94) 3, type := 4, pos := "law.go:57", after := #[{ on := 20, ground := Ground.data }, { on := 22, ground := Ground.data }, { on := 18, ground := Ground.guard }], guard := some (18, false) }) (v := .bool false) rfl (by kernel_rfl) (by kernel_rfl) (by kernel_rfl) (fun _ _ _ h => h) (Or.inl ⟨by rfl, fun W hW => ?_⟩) hHeld ?_
            · obtain ⟨c0, c1, c2, c3, c4, -⟩ := hW
              go_simp
            try simp only [Act.put, List.setIfInBounds_toArray, List.set_cons_zero, List.set_cons_succ]
            refine wpAnyH_take (i := 24) (oi := { dst := some 96, op := Op.pick (Operand.tmp 90) (Operand.const (Value.bool true)) (Operand.tmp 95), type := 4, pos := "law.go:57", after := #[{ on := 18, ground := Ground.data }, { on := 23, ground := Ground.data }], guard := none }) (v := .bool false) rfl (by kernel_rfl) (by kernel_rfl) (by kernel_rfl) (fun _ _ _ h => h) (Or.inl ⟨by rfl, fun W hW => ?_⟩) hHeld ?_
            · obtain ⟨c0, c1, c2, c3, c4, -⟩ := hW
              go_simp
            try simp only [Act.put, List.setIfInBounds_toArray, List.set_cons_zero, List.set_cons_succ]
            refine wpAnyH_take (i := 25) (oi := { dst := some 97, op := Op.move (Operand.tmp 96), type := 4, pos := "law.go:57", after := #[{ on := 24, ground := Ground.data }, { on := 18, ground := Ground.chain }], guard := none }) (v := .bool false) rfl (by kernel_rfl) (by kernel_rfl) (by kernel_rfl) (fun _ _ _ h => h) (Or.inl ⟨by rfl, fun W hW => ?_⟩) hHeld ?_
            · obtain ⟨c0, c1, c2, c3, c4, -⟩ := hW
              go_simp
            try simp only [Act.put, List.setIfInBounds_toArray, List.set_cons_zero, List.set_cons_succ]
            refine wpAnyH_take (i := 26) (oi := { dst := some 98, op := Op.fieldAddr 39 (Operand.tmp 11) 2, type := 0, pos := "law.go:57", after := #[{ on := 25, ground := Ground.guard }], guard := some (25, false) }) (v := .pointer (some ⟨wr.heap.size, 2, none⟩)) rfl (by kernel_rfl) (by kernel_rfl) (by kernel_rfl) (fun _ _ _ h => h) (Or.inl ⟨by rfl, fun W hW => ?_⟩) hHeld ?_
            · obtain ⟨c0, c1, c2, c3, c4, -⟩ := hW
              go_simp
            try simp only [Act.put, List.setIfInBounds_toArray, List.set_cons_zero, List.set_cons_succ]
            refine wpAnyH_take (i := 27) (oi := { dst := some 99, op := Op.load 3 (Operand.tmp 98), type := 3, pos := "law.go:57", after := #[{ on := 26, ground := Ground.data }, { on := 25, ground := Ground.guard }], guard := some (25, false) }) (v := .int .i64 r) rfl (by kernel_rfl) (by kernel_rfl) (by kernel_rfl) (fun _ _ _ h => h) (Or.inl ⟨by rfl, fun W hW => ?_⟩) hHeld ?_
            · obtain ⟨c0, c1, c2, c3, c4, -⟩ := hW
              go_simp
            try simp only [Act.put, List.setIfInBounds_toArray, List.set_cons_zero, List.set_cons_succ]
            refine wpAnyH_take (i := 28) (oi := { dst := some 100, op := Op.move (Operand.tmp 5), type := 9, pos := "law.go:57", after := #[{ on := 25, ground := Ground.guard }], guard := some (25, false) }) (v := .string ⟨TX.toArray⟩) rfl (by kernel_rfl) (by kernel_rfl) (by kernel_rfl) (fun _ _ _ h => h) (Or.inl ⟨by rfl, fun W hW => ?_⟩) hHeld ?_
            · obtain ⟨c0, c1, c2, c3, c4, -⟩ := hW
              go_simp
            try simp only [Act.put, List.setIfInBounds_toArray, List.set_cons_zero, List.set_cons_succ]
            refine wpAnyH_take (i := 29) (oi := { dst := some 101, op := Op.call { callee := Callee.builtin Builtin.len, args := #[Operand.tmp 100], argTypes := #[9] }, type := 3, pos := "law.go:57", after := #[{ on := 28, ground := Ground.data }, { on := 25, ground := Ground.guard }], guard := some (25, false) }) (v := .int .i64 ((m : Int) + 1)) rfl (by kernel_rfl) (by kernel_rfl) (by kernel_rfl) (fun _ _ _ h => h) (Or.inl ⟨by rfl, fun W hW => ?_⟩) hHeld ?_
            · obtain ⟨c0, c1, c2, c3, c4, -⟩ := hW
              go_simp
            try simp only [Act.put, List.setIfInBounds_toArray, List.set_cons_zero, List.set_cons_succ]
            refine wpAnyH_take (i := 30) (oi := { dst := some 102, op := Op.binOp BinOp.gtr 3 (Operand.tmp 99) (Operand.tmp 101) 3, type := 4, pos := "law.go:57", after := #[{ on := 27, ground := Ground.data }, { on := 29, ground := Ground.data }, { on := 25, ground := Ground.guard }], guard := some (25, false) }) (v := .bool false) rfl (by kernel_rfl) (by kernel_rfl) (by kernel_rfl) (fun _ _ _ h => h) (Or.inl ⟨by rfl, fun W hW => ?_⟩) hHeld ?_
            · obtain ⟨c0, c1, c2, c3, c4, -⟩ := hW
              go_simp
            try simp only [Act.put, List.setIfInBounds_toArray, List.set_cons_zero, List.set_cons_succ]
            refine wpAnyH_take (i := 31) (oi := { dst := some 103, op := Op.pick (Operand.tmp 97) (Operand.const (Value.bool true)) (Operand.tmp 102), type := 4, pos := "law.go:57", after := #[{ on := 25, ground := Ground.data }, { on := 30, ground := Ground.data }], guard := none }) (v := .bool false) rfl (by kernel_rfl) (by kernel_rfl) (by kernel_rfl) (fun _ _ _ h => h) (Or.inl ⟨by rfl, fun W hW => ?_⟩) hHeld ?_
            · obtain ⟨c0, c1, c2, c3, c4, -⟩ := hW
              go_simp
            try simp only [Act.put, List.setIfInBounds_toArray, List.set_cons_zero, List.set_cons_succ]
            refine wpAnyH_take (i := 32) (oi := { dst := some 104, op := Op.move (Operand.tmp 103), type := 4, pos := "law.go:57", after := #[{ on := 31, ground := Ground.data }, { on := 25, ground := Ground.chain }], guard := none }) (v := .bool false) rfl (by kernel_rfl) (by kernel_rfl) (by kernel_rfl) (fun _ _ _ h => h) (Or.inl ⟨by rfl, fun W hW => ?_⟩) hHeld ?_
            · obtain ⟨c0, c1, c2, c3, c4, -⟩ := hW
              go_simp
            try simp only [Act.put, List.setIfInBounds_toArray, List.set_cons_zero, List.set_cons_succ]
            refine wpAnyH_take (i := 33) (oi := { dst := some 105, op := Op.move (Operand.tmp 5), type := 9, pos := "law.go:57", after := #[{ on := 32, ground := Ground.guard }], guard := some (32, false) }) (v := .string ⟨TX.toArray⟩) rfl (by kernel_rfl) (by kernel_rfl) (by kernel_rfl) (fun _ _ _ h => h) (Or.inl ⟨by rfl, fun W hW => ?_⟩) hHeld ?_
            · obtain ⟨c0, c1, c2, c3, c4, -⟩ := hW
              go_simp
            try simp only [Act.put, List.setIfInBounds_toArray, List.set_cons_zero, List.set_cons_succ]
            refine wpAnyH_take (i := 34) (oi := { dst := some 106, op := Op.fieldAddr 39 (Operand.tmp 11) 1, type := 0, pos := "law.go:57", after := #[{ on := 32, ground := Ground.guard }], guard := some (32, false) }) (v := .pointer (some ⟨wr.heap.size, 1, none⟩)) rfl (by kernel_rfl) (by kernel_rfl) (by kernel_rfl) (fun _ _ _ h => h) (Or.inl ⟨by rfl, fun W hW => ?_⟩) hHeld ?_
            · obtain ⟨c0, c1, c2, c3, c4, -⟩ := hW
              go_simp
            try simp only [Act.put, List.setIfInBounds_toArray, List.set_cons_zero, List.set_cons_succ]
            refine wpAnyH_take (i := 35) (oi := { dst := some 107, op := Op.load 3 (Operand.tmp 106), type := 3, pos := "law.go:57", after := #[{ on := 34, ground := Ground.data }, { on := 32, ground := Ground.guard }], guard := some (32, false) }) (v := .int .i64 q) rfl (by kernel_rfl) (by kernel_rfl) (by kernel_rfl) (fun _ _ _ h => h) (Or.inl ⟨by rfl, fun W hW => ?_⟩) hHeld ?_
            · obtain ⟨c0, c1, c2, c3, c4, -⟩ := hW
              go_simp
            try simp only [Act.put, List.setIfInBounds_toArray, List.set_cons_zero, List.set_cons_succ]
            refine wpAnyH_take (i := 36) (oi := { dst := some 108, op := Op.fieldAddr 39 (Operand.tmp 11) 2, type := 0, pos := "law.go:57", after := #[{ on := 32, ground := Ground.guard }], guard := some (32, false) }) (v := .pointer (some ⟨wr.heap.size, 2, none⟩)) rfl (by kernel_rfl) (by kernel_rfl) (by kernel_rfl) (fun _ _ _ h => h) (Or.inl ⟨by rfl, fun W hW => ?_⟩) hHeld ?_
            · obtain ⟨c0, c1, c2, c3, c4, -⟩ := hW
              go_simp
            try simp only [Act.put, List.setIfInBounds_toArray, List.set_cons_zero, List.set_cons_succ]
            refine wpAnyH_take (i := 37) (oi := { dst := some 109, op := Op.load 3 (Operand.tmp 108), type := 3, pos := "law.go:57", after := #[{ on := 36, ground := Ground.data }, { on := 32, ground := Ground.guard }], guard := some (32, false) }) (v := .int .i64 r) rfl (by kernel_rfl) (by kernel_rfl) (by kernel_rfl) (fun _ _ _ h => h) (Or.inl ⟨by rfl, fun W hW => ?_⟩) hHeld ?_
            · obtain ⟨c0, c1, c2, c3, c4, -⟩ := hW
              go_simp
            try simp only [Act.put, List.setIfInBounds_toArray, List.set_cons_zero, List.set_cons_succ]
            refine wpAnyH_take (i := 38) (oi := { dst := some 110, op := Op.slice 9 (Operand.tmp 105) (some (Operand.tmp 107)) (some (Operand.tmp 109)) none, type := 9, pos := "law.go:57", after := #[{ on := 33, ground := Ground.data }, { on := 35, ground := Ground.data }, { on := 37, ground := Ground.data }, { on := 32, ground := Ground.guard }], guard := some (32, false) }) (v := .string ⟨L.toArray⟩) rfl (by kernel_rfl) (by kernel_rfl) (by kernel_rfl) (fun _ _ _ h => h) (Or.inl ⟨by rfl, fun W hW => ?_⟩) hHeld ?_
            · obtain ⟨c0, c1, c2, c3, c4, -⟩ := hW
              go_simp
            try simp only [Act.put, List.setIfInBounds_toArray, List.set_cons_zero, List.set_cons_succ]
            refine wpAnyH_take (i := 39) (oi := { dst := some 111, op := Op.move (Operand.tmp 3), type := 32, pos := "law.go:57", after := #[{ on := 32, ground := Ground.guard }], guard := some (32, false) }) (v := .slice (some ⟨lb, lo, none⟩) n c) rfl (by kernel_rfl) (by kernel_rfl) (by kernel_rfl) (fun _ _ _ h => h) (Or.inl ⟨by rfl, fun W hW => ?_⟩) hHeld ?_
            · obtain ⟨c0, c1, c2, c3, c4, -⟩ := hW
              go_simp
            try simp only [Act.put, List.setIfInBounds_toArray, List.set_cons_zero, List.set_cons_succ]
            refine wpAnyH_take (i := 40) (oi := { dst := some 112, op := Op.move (Operand.tmp 10), type := 3, pos := "law.go:57", after := #[{ on := 32, ground := Ground.guard }], guard := some (32, false) }) (v := .int .i64 j) rfl (by kernel_rfl) (by kernel_rfl) (by kernel_rfl) (fun _ _ _ h => h) (Or.inl ⟨by rfl, fun W hW => ?_⟩) hHeld ?_
            · obtain ⟨c0, c1, c2, c3, c4, -⟩ := hW
              go_simp
            try simp only [Act.put, List.setIfInBounds_toArray, List.set_cons_zero, List.set_cons_succ]
            refine wpAnyH_take (i := 41) (oi := { dst := some 113, op := Op.indexAddr 32 (Operand.tmp 111) (Operand.tmp 112), type := 0, pos := "law.go:57", after := #[{ on := 39, ground := Ground.data }, { on := 40, ground := Ground.data }, { on := 32, ground := Ground.guard }], guard := some (32, false) }) (v := .pointer (some ⟨lb, lo + j, none⟩)) rfl (by kernel_rfl) (by kernel_rfl) (by kernel_rfl) (fun _ _ _ h => h) (Or.inl ⟨by rfl, fun W hW => ?_⟩) hHeld ?_
            · obtain ⟨c0, c1, c2, c3, c4, -⟩ := hW
              go_simp
            try simp only [Act.put, List.setIfInBounds_toArray, List.set_cons_zero, List.set_cons_succ]
            refine wpAnyH_take (i := 42) (oi := { dst := some 114, op := Op.load 3 (Operand.tmp 113), type := 3, pos := "law.go:57", after := #[{ on := 41, ground := Ground.data }, { on := 32, ground := Ground.guard }], guard := some (32, false) }) (v := .int .i64 x) rfl (by kernel_rfl) (by kernel_rfl) (by kernel_rfl) (fun _ _ _ h => h) (Or.inl ⟨by rfl, fun W hW => ?_⟩) hHeld ?_
            · obtain ⟨c0, c1, c2, c3, c4, -⟩ := hW
              go_simp
            try simp only [Act.put, List.setIfInBounds_toArray, List.set_cons_zero, List.set_cons_succ]
            refine wpAnyH_ready (rs := [43]) (by kernel_rfl) (by simp) ?_
            refine AllReadyH.cons (o := { dst := some 115, op := Op.call { callee := Callee.value (Operand.func 15), args := #[Operand.tmp 114], argTypes := #[3] }, type := 9, pos := "law.go:57", after := #[{ on := 42, ground := Ground.data }, { on := 32, ground := Ground.chain }, { on := 32, ground := Ground.guard }], guard := some (32, false) }) rfl (fun K hK => ?_) AllReadyH.nil
            go_simp
            refine (HV.out _ (by exact HLN.out.2.2.2.2.2)).mono ?_
            rintro e w' ⟨rfl, hgw⟩
            go_wp2_with fail
            refine hK.out _ _ (HLN.out.drew.grown hgw) (fun hHeld => ?_)
            clear hK K
            try simp only [Act.put, List.setIfInBounds_toArray, List.set_cons_zero, List.set_cons_succ]
            refine wpAnyH_take (i := 44) (oi := { dst := some 116, op := Op.binOp BinOp.neq 9 (Operand.tmp 110) (Operand.tmp 115) 9, type := 4, pos := "law.go:57", after := #[{ on := 38, ground := Ground.data }, { on := 43, ground := Ground.data }, { on := 32, ground := Ground.guard }], guard := some (32, false) }) (v := .bool false) rfl (by kernel_rfl) (by kernel_rfl) (by kernel_rfl) (fun _ _ _ h => h) (Or.inl ⟨by rfl, fun W hW => ?_⟩) hHeld ?_
            · obtain ⟨c0, c1, c2, c3, c4, -⟩ := hW
              go_simp
            try simp only [Act.put, List.setIfInBounds_toArray, List.set_cons_zero, List.set_cons_succ]
            refine wpAnyH_take (i := 45) (oi := { dst := some 117, op := Op.pick (Operand.tmp 104) (Operand.const (Value.bool true)) (Operand.tmp 116), type := 4, pos := "law.go:57", after := #[{ on := 32, ground := Ground.data }, { on := 44, ground := Ground.data }], guard := none }) (v := .bool false) rfl (by kernel_rfl) (by kernel_rfl) (by kernel_rfl) (fun _ _ _ h => h) (Or.inl ⟨by rfl, fun W hW => ?_⟩) hHeld ?_
            · obtain ⟨c0, c1, c2, c3, c4, -⟩ := hW
              go_simp
            try simp only [Act.put, List.setIfInBounds_toArray, List.set_cons_zero, List.set_cons_succ]
            refine wpAnyH_done (by kernel_rfl) ?_ _
            refine NoPanic.normal ?_
            have hgb := (hbj.alloc hbj.size (.cells #[.int .i64 1, .int .i64 q, .int .i64 r, .int .i64 x] 39)).drew.trans ((Below_of_grown hgw).mono (by have := hbj.size; simp; omega))
            obtain ⟨u0, u1, u2', u3, -, -⟩ := hHeld
            clear hgw
            go_wp2
            go_roundw
            case rel =>
              refine ⟨j + 1, by omega, by go_num, ?_, hgb⟩
              rw [HST.out]
              go_num
            case measure => simp [intOf]; omega
          · have hjn2 : ¬ ((j : Int) < (n : Int)) := by omega
            have hjn3 : j = n := by omega
            have HJN := Nu.hid hjn3
            clear hjn3
            obtain ⟨x0, x1, x2, x3⟩ := HCL.out.later hbj
            obtain ⟨y0, y1, y2, y3⟩ := HCE.out.later hbj
            have e0 : (0 : Int) ≤ (n : Int) := by omega
            have e1 : (n : Int) < (n : Int) + 2 := by omega
            have e2 : (n : Int) + 1 < (n : Int) + 2 := by omega
            go_wp2
            go_ret
            exact ⟨rfl, HB5.out.trans (hbj.mono HB5.out.size)⟩

/-- What the walk gives, for every argument and every world that holds the tables. -/
theorem contract (H : Type) (enc : TypeId × Value → H) (W : World) (base : Nat) (args : Array Value) (ds gs : List (DataW H)) (before : List MemPlace)
    (hval : ∀ (j : Nat) t v, Tryd.f5.params[j]? = some t → args[j]? = some v → Value.okWide Tryd.prog W .any base t v)
    (hW : DataW.Whole enc Tryd.prog Tryd.f5.params.toList Rows.numsBackSpec.vars false W args.toList ds gs before)
    (hsz : (DataW.weightsEach Tryd.prog (Tryd.f5.params.toList ++ (OpenSpec.ofChange Rows.numsBackSpec).bare.plain.varTypes Tryd.prog) (ds ++ gs)).all (· ≤ reachBytes) = true)
    (hL : laidMet Tryd.prog listed W) :
    Calls Tryd.prog 5 args W fun e W' => ∃ v, e = .returned v ∧ Rows.numsBackSpec.post enc Tryd.prog Tryd.f5 false true false false W args v W' := by
  have hW' := hW
  obtain ⟨p, q, hA0, hV, rfl, hfz, hnd⟩ := hW
  have hA : DataW.TrodAll enc Tryd.prog W 0 (fun _ => true) true Tryd.f5.params.toList args.toList ds p := hA0
  rw [Tryd.params5] at hA hval hsz
  obtain ⟨v0, vs0, d0, ds0, p0, q0, hargs, rfl, rfl, h0, r0⟩ := trodAll_cons hA
  obtain ⟨rfl, rfl, rfl⟩ := trodAll_nil r0
  obtain rfl : args = #[v0] := by cases args; simp_all
  obtain ⟨rfl, rfl⟩ := trodVars_none hV
  obtain ⟨a0, len0, cap0, rfl⟩ := okWide_slice Tryd.underlying32 (hval 0 32 v0 rfl rfl)
  have k0 := h0
  have lt0 : ∀ x ∈ p0, x.block < W.heap.size := by obtain ⟨m, hm⟩ := k0; exact DataW.trod_lt m _ _ _ hm
  obtain ⟨z0, w0⟩ := IsRow.of_trod (j := 0) Tryd.underlying32 Tryd.underlying3 cellsInt bytesInt h0 hsz rfl rfl
  clear hA0
  refine (walk a0 len0 cap0 z0 W w0 (table hL)).mono fun e W' ⟨he, bel⟩ => ?_
  subst he
  exact ⟨_, rfl, _, _, _, [], _, [], hW', trodAll_mk1 (shut_bool Tryd.underlying4 _), (trodAll_cons_mk (Below.trod laidOut (by kernel_rfl) (of_decide_eq_true (by kernel_rfl)) k0 bel lt0) trodAll_mk0), rfl, bel.frame _, fun h => by cases h⟩

theorem laid_met (os : Os) : laidMet Tryd.prog Rows.numsBackRow.laid ((laidWorld os).forCall (fun _ _ => 0) ⟨#[], #[.slice none 0 0], []⟩).memory :=
  laidMet_of_run' 100 (by kernel_rfl) (by kernel_rfl)
theorem reads (os : Os) {H : Type} (enc : TypeId × Value → H) : ∃ places, DataW.whole enc Tryd.prog ((laidWorld os).forCall (fun _ _ => 0) ⟨#[], #[.slice none 0 0], []⟩).memory Tryd.f5.params.toList Rows.numsBackSpec.vars false (#[.slice none 0 0] : Array Value).toList 8 = some ([.nil], [], places) :=
  ⟨[], by kernel_rfl⟩

set_option maxRecDepth 100000 in
theorem lifted (os : Os) (started : os.Started) (H : Type) (enc : TypeId × Value → H) (F : Stop.Interp) :
    ReturnsInHanded {} Tryd.checked os 5 .any ((OpenSpec.ofChange Rows.numsBackSpec).preRow enc Tryd.prog Tryd.f5 Rows.numsBackRow.domain false Rows.numsBackRow.laid) (((OpenSpec.ofChange Rows.numsBackSpec).at F).post enc Tryd.prog Tryd.f5 false true false false) := by
  obtain ⟨places, hx⟩ := reads os enc
  refine returnsInHanded_of_row (C := Tryd.checked) (s := (OpenSpec.ofChange Rows.numsBackSpec)) own started (by kernel_rfl) Tryd.func5
    (witness_row_at (enc := enc) (C := Tryd.checked) false (laidWorld os) #[.slice none 0 0] rfl (by kernel_rfl) (by kernel_rfl) (by kernel_rfl)
      (OpenSpec.preRow_of_cond 8 hx (by kernel_rfl) (fun k hk => by cases hk) (by kernel_rfl) (laid_met os))) ?_
  intro W base args ds gs before hval hW _ hcond hsz hL _ _
  exact contract H enc W base args ds gs before hval hW hsz hL

theorem said : Rows.NumsBackSaid :=
  OpenClaim.holds_of_cond 5 Tryd.f5 rfl rfl rfl rfl rfl rfl rfl ⟨rfl, rfl, rfl, rfl, rfl⟩ rfl rfl rfl rfl rfl (by kernel_rfl) Tryd.func5 (by kernel_rfl)
    (of_decide_eq_true (by kernel_rfl)) (by unfold Func.isWrapper; first | (rw [if_pos (by decide +kernel)]; kernel_rfl) | (rw [if_neg (by decide +kernel)]; exact ⟨rfl, rfl⟩))
    (fun os started H enc _ F => by rw [OpenClaim.pre_eq_preRow]; exact lifted os started H enc F)

theorem plain (f : FuncId) (fn : Func) (hf : Tryd.pinned.checked.prog.funcNamed "tangram/tangramlaw01.NumsBack" = some f) (hfn : Tryd.pinned.checked.prog.funcs[f]? = some fn) :
    true = Tryd.pinned.checked.prog.looks [] ∧ ∀ (j : Nat) t, fn.params[j]? = some t → Tryd.pinned.checked.prog.wantsStandIn t = false := by
  obtain rfl : f = 5 := Option.some.inj ((show Tryd.prog.funcNamed "tangram/tangramlaw01.NumsBack" = some 5 by kernel_rfl).symm.trans hf) |>.symm
  obtain rfl : fn = Tryd.f5 := (Option.some.inj (Tryd.func5.symm.trans hfn)).symm
  refine ⟨by kernel_rfl, fun j t ht => ?_⟩
  rw [Tryd.params5] at ht
  obtain rfl : t = 32 := by simpa using Array.mem_of_getElem? ht
  exact (show Tryd.prog.wantsStandIn 32 = false by kernel_rfl)

theorem card : Rows.NumsBackCardSaid :=
  Claim7.holds_tied_plain_at .later [] _ _ _ _ said (fun _ h => by cases h) (by kernel_rfl) (fun _ h => by cases h) numsBack_row_tie rfl ⟨rfl, rfl⟩ (by kernel_rfl) rfl plain (by kernel_rfl)


end lawBack

theorem numsBack_holds : Rows.NumsBackCardSaid := lawBack.card

#print axioms numsBack_holds
end Go.Proofs.YtcglpafbmekabaaDoor
