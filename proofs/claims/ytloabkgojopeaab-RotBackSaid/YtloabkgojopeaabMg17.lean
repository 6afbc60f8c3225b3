import Derived.Test.YtloabkgojopeaabMg01
import Derived.Test.YtloabkgojopeaabMg02
import Derived.Test.YtloabkgojopeaabMg10
import Derived.Test.YtloabkgojopeaabMg16
import Derived.Test.YtloabkgojopeaabMg04
/-
  Half-edges: where they begin, where they lead, whether they leave a vertex: the document.
-/
namespace Go.Proofs.Ytloabkgojopeaab
open Go.RowKit Go.Sort

set_option maxRecDepth 100000 in
set_option maxHeartbeats 4000000 in
theorem r11from_any (n : Nat) (ao : Option Addr) (ca : Nat) (es : List (Int × Int)) (j : Nat) (w : World) (he : EdgesAt w ao es) (hv : Si.Val n es) (hj : j < 2 * es.length) :
    Calls Try.prog 40 #[.agg #[.int .i64 (n : Int), .slice ao es.length ca], .int .i64 (j : Int)] w fun e w' => e = .returned (.int .i64 (Cs.fr es j : Int)) ∧ Below w.heap.size w w' := by
  have hb0 : Below w.heap.size w (w.alloc (.cells #[.int .i64 (n : Int), .slice ao es.length ca] 24)) := (Below.refl _ _).alloc (Nat.le_refl _) _
  have hfew := hv.few
  obtain ⟨e, hee, hok, hpar⟩ := half_edge hv hj
  obtain ⟨b, o, rfl, c0, c1⟩ := (he.later hb0) (j / 2) e hee
  obtain ⟨jh, hjh⟩ : ∃ jh, jh = j / 2 := ⟨_, rfl⟩
  rw [← hjh] at c0 c1 hee
  have hj0 : (0 : Int) ≤ (j : Int) := by omega
  have htd : (j : Int).tdiv 2 = (jh : Int) := by rw [Int.tdiv_eq_ediv_of_nonneg hj0]; omega
  have htd2 : (j : Int) / 2 = (jh : Int) := by omega
  have hjd : j / 2 = jh := hjh.symm
  have hj2 : (0 : Int) ≤ (jh : Int) := by omega
  have hj3 : (jh : Int) < (es.length : Int) := by omega
  have HB0 := Nu.hid hb0
  rcases hpar with ⟨hm, hf, ht⟩ | ⟨hm, hf, ht⟩
  · have hm1 : (j : Int).tmod 2 = 0 := by rw [Int.tmod_eq_emod_of_nonneg hj0]; omega
    have hm2 : (j : Int) % 2 = 0 := by omega
    rw [hf]
    clear he hv hok hee hb0 hf ht hjh hm
    go_enter Try.func40, Try.ntmps40
    go_wp2
    go_ret
    exact ⟨rfl, HB0.out⟩
  · have hm1 : (j : Int).tmod 2 = 1 := by rw [Int.tmod_eq_emod_of_nonneg hj0]; omega
    have hm2 : (j : Int) % 2 = 1 := by omega
    rw [hf]
    clear he hv hok hee hb0 hf ht hjh hm
    go_enter Try.func40, Try.ntmps40
    go_wp2
    go_ret
    exact ⟨rfl, HB0.out⟩

set_option maxRecDepth 100000 in
set_option maxHeartbeats 4000000 in
theorem r11to_any (n : Nat) (ao : Option Addr) (ca : Nat) (es : List (Int × Int)) (j : Nat) (w : World) (he : EdgesAt w ao es) (hv : Si.Val n es) (hj : j < 2 * es.length) :
    Calls Try.prog 29 #[.agg #[.int .i64 (n : Int), .slice ao es.length ca], .int .i64 (j : Int)] w fun e w' => e = .returned (.int .i64 (Cs.to es j : Int)) ∧ Below w.heap.size w w' := by
  have hb0 : Below w.heap.size w (w.alloc (.cells #[.int .i64 (n : Int), .slice ao es.length ca] 24)) := (Below.refl _ _).alloc (Nat.le_refl _) _
  have hfew := hv.few
  have hxt := Cs.xor_twin j (by omega)
  have hfr := r11from_any n ao ca es (Cs.twin j) _ (he.later hb0) hv (Cs.twin_lt hj)
  rw [Cs.fr_twin] at hfr
  have HFR := Nu.hid hfr
  have HB0 := Nu.hid hb0
  clear he hv hb0 hfr
  go_enter Try.func29, Try.ntmps29
  go_wp2_with (go_at_call 40; refine HFR.out.mono ?_; rintro e w1 ⟨rfl, hb1⟩)
  go_ret
  exact ⟨rfl, HB0.out.trans (hb1.mono HB0.out.size)⟩

set_option maxRecDepth 100000 in
set_option maxHeartbeats 4000000 in
theorem r11leaves_any (n : Nat) (ao : Option Addr) (ca : Nat) (es : List (Int × Int)) (h : Int) (v : Nat) (w : World) (he : EdgesAt w ao es) (hv : Si.Val n es) :
    Calls Try.prog 41 #[.agg #[.int .i64 (n : Int), .slice ao es.length ca], .int .i64 h, .int .i64 (v : Int)] w fun e w' => e = .returned (.bool (Ro.lv es h v)) ∧ Below w.heap.size w w' := by
  have hb0 : Below w.heap.size w (w.alloc (.cells #[.int .i64 (n : Int), .slice ao es.length ca] 24)) := (Below.refl _ _).alloc (Nat.le_refl _) _
  have hfew := hv.few
  have hin := fun j hj => r11from_any n ao ca es j _ (he.later hb0) hv hj
  have HIN := Nu.hid hin
  have HB0 := Nu.hid hb0
  clear he hv hb0 hin
  have hmul : IntKind.i64.wrap (2 * (es.length : Int)) = 2 * (es.length : Int) := by rw [IntKind.wrap_i64]; omega
  by_cases h0 : 0 ≤ h
  · by_cases h1 : h < 2 * (es.length : Int)
    · obtain ⟨j, rfl⟩ : ∃ j : Nat, h = (j : Int) := ⟨h.toNat, by omega⟩
      have hj : j < 2 * es.length := by omega
      have hlv : Ro.lv es (j : Int) v = ((Cs.fr es j : Int) == (v : Int)) := by
        unfold Ro.lv
        rw [Cs.frI_in hj, decide_eq_true h0, decide_eq_true h1]
        rfl
      rw [hlv]
      have HJ := Nu.hid (HIN.out j hj)
      clear hlv hmul
      go_enter Try.func41, Try.ntmps41
      go_wp2_with (go_at_call 40; refine HJ.out.mono ?_; rintro e w1 ⟨rfl, hb1⟩)
      go_ret
      exact ⟨rfl, HB0.out.trans (hb1.mono HB0.out.size)⟩
    · have hlv : Ro.lv es h v = false := by simp [Ro.lv, h1]
      rw [hlv]
      clear hlv
      go_enter Try.func41, Try.ntmps41
      go_wp2
      go_ret
      exact ⟨rfl, HB0.out⟩
  · have hlv : Ro.lv es h v = false := by simp [Ro.lv, h0]
    rw [hlv]
    clear hlv
    go_enter Try.func41, Try.ntmps41
    go_wp2
    go_ret
    exact ⟨rfl, HB0.out⟩

end Go.Proofs.Ytloabkgojopeaab

/-
  The document's own Half.
-/
namespace Go.Proofs.Ytloabkgojopeaab
open Go.RowKit Go.Sort

set_option maxRecDepth 100000 in
set_option maxHeartbeats 8000000 in
theorem rhalf_any (n : Nat) (ao : Option Addr) (ca : Nat) (es : List (Int × Int)) (u : Nat) (x : Int) (w : World) (he : EdgesAt w ao es) (hv : Si.Val n es) :
    Calls Try.prog 27 #[.agg #[.int .i64 (n : Int), .slice ao es.length ca], .int .i64 (u : Int), .int .i64 x] w fun e w' => e = .returned (.int .i64 (Ro.hl es u x)) ∧ Below w.heap.size w w' := by
  have hb0 : Below w.heap.size w (w.alloc (.cells #[.int .i64 (n : Int), .slice ao es.length ca] 24)) := (Below.refl _ _).alloc (Nat.le_refl _) _
  have hfew := hv.few
  have HE := Nu.hid he
  have HVAL := Nu.hid hv
  have HB0 := Nu.hid hb0
  have HG0 : Hid ((w.alloc (.cells #[.int .i64 (n : Int), .slice ao es.length ca] 24)).heap[w.heap.size]? = some (.cells #[.int .i64 (n : Int), .slice ao es.length ca] 24 (0, 0))) := heap_alloc_new w _
  have hmul : IntKind.i64.wrap (2 * (es.length : Int)) = 2 * (es.length : Int) := by rw [IntKind.wrap_i64]; omega
  clear he hv hb0
  go_enter Try.func27, Try.ntmps27
  go_wp2
  go_loopw [7] (fun c6 wr => ∃ j : Nat, j ≤ 2 * es.length ∧ c6 = .int .i64 (j : Int) ∧ Ro.half es u x j = none ∧ wr.heap[w.heap.size]? = some (.cells #[.int .i64 (n : Int), .slice ao es.length ca] 24 (0, 0)) ∧ Below w.heap.size w wr) (fun c6 _ => 2 * es.length - (intOf c6).toNat)
  case atStart => exact ⟨0, Nat.zero_le _, rfl, rfl, HG0.out, HB0.out⟩
  case round =>
    obtain ⟨j, hj, rfl, hno, hg, hb⟩ := hrel
    obtain ⟨g0, g1, -⟩ := pair_cells hg
    have HG := Nu.hid hg
    have HB := Nu.hid hb
    have HNO := Nu.hid hno
    clear hg hb hno
    by_cases hlt : j < 2 * es.length
    · have hlti : (j : Int) < 2 * (es.length : Int) := by omega
      have HF := Nu.hid (r11from_any n ao ca es j wr (HE.out.later HB.out) HVAL.out hlt)
      by_cases hf : Cs.fr es j = u
      · have t1 : ((Cs.fr es j : Int) == (u : Int)) = true := by simp; omega
        have HFE := Nu.hid hf
        clear hf
        go_wp2_with (go_at_call 40; refine HF.out.mono ?_; rintro e w2 ⟨rfl, hb2⟩; refine Hid.out ?_)
        refine Nu.hid ?_
        have hG2 := (hb2.block _ (lt_of_block HG.out)).trans HG.out
        have HB2 := Nu.hid (HB.out.trans (hb2.mono HB.out.size))
        clear g0 g1
        obtain ⟨g0, g1, -⟩ := pair_cells hG2
        have HG2 := Nu.hid hG2
        have HT := Nu.hid (r11to_any n ao ca es j w2 (HE.out.later HB2.out) HVAL.out hlt)
        clear hb2 hG2
        by_cases ht : (Cs.to es j : Int) = x
        · have t2 : ((Cs.to es j : Int) == x) = true := by simp [ht]
          have HX := Nu.hid (Ro.hl_of HVAL.out hlt HFE.out ht)
          clear ht
          go_wp2_with (go_at_call 29; refine HT.out.mono ?_; rintro e w3 ⟨rfl, hb3⟩; refine Hid.out ?_)
          refine Nu.hid ?_
          have HB3 := Nu.hid (HB2.out.trans (hb3.mono HB2.out.size))
          clear hb3 g0 g1
          go_wp2
          go_ret
          exact ⟨by rw [(Ro.hl_lv HX.out).1]; rfl, HB3.out⟩
        · have t2 : ((Cs.to es j : Int) == x) = false := beq_false_of_ne ht
          have HN2 : Hid (Ro.half es u x (j + 1) = none) := by
            show Ro.half es u x (j + 1) = none
            unfold Ro.half
            rw [HNO.out]
            exact if_neg (fun h => ht h.2)
          clear ht
          go_wp2_with (go_at_call 29; refine HT.out.mono ?_; rintro e w3 ⟨rfl, hb3⟩; refine Hid.out ?_)
          refine Nu.hid ?_
          have HG3 := Nu.hid ((hb3.block _ (lt_of_block HG2.out)).trans HG2.out)
          have HB3 := Nu.hid (HB2.out.trans (hb3.mono HB2.out.size))
          clear hb3 g0 g1
          go_wp2
          go_roundw
          case rel => exact ⟨j + 1, by omega, by go_num, HN2.out, HG3.out, HB3.out⟩
          case measure => simp [intOf]; omega
      · have t1 : ((Cs.fr es j : Int) == (u : Int)) = false := by simp; omega
        have HN2 : Hid (Ro.half es u x (j + 1) = none) := by
          show Ro.half es u x (j + 1) = none
          unfold Ro.half
          rw [HNO.out]
          exact if_neg (fun h => hf h.1)
        clear hf
        go_wp2_with (go_at_call 40; refine HF.out.mono ?_; rintro e w2 ⟨rfl, hb2⟩; refine Hid.out ?_)
        refine Nu.hid ?_
        have HG2 := Nu.hid ((hb2.block _ (lt_of_block HG.out)).trans HG.out)
        have HB2 := Nu.hid (HB.out.trans (hb2.mono HB.out.size))
        clear hb2 g0 g1
        go_wp2
        go_roundw
        case rel => exact ⟨j + 1, by omega, by go_num, HN2.out, HG2.out, HB2.out⟩
        case measure => simp [intOf]; omega
    · have hlti : ¬ (j : Int) < 2 * (es.length : Int) := by omega
      obtain rfl : j = 2 * es.length := by omega
      go_wp2
      go_ret
      exact ⟨by rw [(Ro.hl_no HNO.out).1]; rfl, HB.out⟩

end Go.Proofs.Ytloabkgojopeaab

/-
  The law's own 'right'.
-/
namespace Go.Proofs.Ytloabkgojopeaab
open Go.RowKit Go.Sort

def RightQ (m : Nat) (es : List (Int × Int)) (ms : List (List Int)) (w : World) (e : Ending) (w' : World) : Prop :=
  Below w.heap.size w w' ∧ ((Ro.RightL m es ms ∧ e = .returned (.bool true)) ∨ (¬ Ro.RightL m es ms ∧ e = .returned (.bool false)))

set_option maxRecDepth 100000 in
set_option maxHeartbeats 16000000 in
theorem right_any (m : Nat) (ao : Option Addr) (ca : Nat) (es : List (Int × Int)) (xo : Option Addr) (xc : Nat) (ms : List (List Int)) (w : World) (he : EdgesAt w ao es) (hv : Si.Val m es) (hx : RwsAt w xo ms) :
    Calls Try.prog 11 #[.agg #[.int .i64 (m : Int), .slice ao es.length ca], .slice xo ms.length xc] w (RightQ m es ms w) := by
  have hb0 : Below w.heap.size w (w.alloc (.cells #[.int .i64 (m : Int), .slice ao es.length ca] 24)) := (Below.refl _ _).alloc (Nat.le_refl _) _
  have hG0 : (w.alloc (.cells #[.int .i64 (m : Int), .slice ao es.length ca] 24)).heap[w.heap.size]? = some (.cells #[.int .i64 (m : Int), .slice ao es.length ca] 24 (0, 0)) := heap_alloc_new w _
  have hfew := hv.few
  have hhi := hv.hi
  have HE := Nu.hid he
  have HX := Nu.hid hx
  have HVAL := Nu.hid hv
  have HB0 := Nu.hid hb0
  have HG0 := Nu.hid hG0
  have hmul : IntKind.i64.wrap (2 * (es.length : Int)) = 2 * (es.length : Int) := by rw [IntKind.wrap_i64]; omega
  have HF : Hid (∀ W (u : Nat) (x : Int), EdgesAt W ao es → Calls Try.prog 27 #[.agg #[.int .i64 (m : Int), .slice ao es.length ca], .int .i64 (u : Int), .int .i64 x] W fun e w' => e = .returned (.int .i64 (Ro.hl es u x)) ∧ Below W.heap.size W w') := fun W u x h => rhalf_any m ao ca es u x W h hv
  obtain ⟨x0, x1, -⟩ := pair_cells hG0
  clear he hv hx hb0 hG0
  by_cases hm : ms.length = m
  · have HM := Nu.hid hm
    rw [hm]
    clear hm
    go_enter Try.func11, Try.ntmps11
    go_wp2
    clear x0 x1
    go_loopw [19, 5] (fun c s wr => ∃ k : Nat, k ≤ m ∧ c = .int .i64 (k : Int) ∧ s = .int .i64 (Ro.sumTo ms k : Int) ∧ (∀ v l, v < k → ms[v]? = some l → Ro.Nice es v l) ∧ wr.heap[w.heap.size]? = some (.cells #[.int .i64 (m : Int), .slice ao es.length ca] 24 (0, 0)) ∧ Below w.heap.size w wr) (fun c _ _ => m - (intOf c).toNat)
    case atStart => exact ⟨0, Nat.zero_le _, rfl, rfl, fun v l h => by omega, HG0.out, HB0.out⟩
    case round =>
      obtain ⟨k, hk, rfl, rfl, hnice, hbox, hb⟩ := hrel
      clear HG0 HB0
      have HNICE := Nu.hid hnice
      have hsum := Ro.sum_le hnice (by rw [HM.out]; exact hk)
      have hdeg := Nat.le_trans (Ro.degTo_mono es (2 * es.length) hk) (Nat.le_of_eq (Ro.degTo_all fun i hi => (Cs.half_lt HVAL.out hi).1))
      have HBOX := Nu.hid hbox
      have HB := Nu.hid hb
      clear hnice hbox hb
      by_cases hlt : k < m
      · have hlti : (k : Int) < (m : Int) := by omega
        have hk0 : (0 : Int) ≤ (k : Int) := by omega
        obtain ⟨l, hlk⟩ : ∃ l, ms[k]? = some l := ⟨_, List.getElem?_eq_getElem (by rw [HM.out]; exact hlt)⟩
        have HLK := Nu.hid hlk
        obtain ⟨b, o, A, C, rfl, hcell, hL, hln, hC, hC2⟩ := HX.out k l hlk
        have hbl : b < w.heap.size := block_lt_of_cell hcell
        have hcr := (HB.out.cell (p := ⟨b, o + k, none⟩) hbl).trans hcell
        have HL := Nu.hid hL
        have HCELL := Nu.hid hcell
        obtain ⟨S, hS⟩ : ∃ S, S = Ro.sumTo ms k := ⟨_, rfl⟩
        rw [← hS] at hsum ⊢
        have HSS := Nu.hid hS
        have hSb : S ≤ 8388608 := by omega
        clear hcell hL hlk hS hsum hdeg
        go_wp2
        clear hcr
        go_loopw [26] (fun c wr => ∃ i : Nat, i ≤ l.length ∧ c = .int .i64 (i : Int) ∧ (∀ j x, j < i → l[j]? = some x → 0 ≤ Ro.hl es k x) ∧ (∀ a c y, a < c → c < i → l[a]? = some y → l[c]? = some y → False) ∧ wr.heap[w.heap.size]? = some (.cells #[.int .i64 (m : Int), .slice ao es.length ca] 24 (0, 0)) ∧ Below w.heap.size w wr) (fun c _ => l.length - (intOf c).toNat)
        case atStart => exact ⟨0, Nat.zero_le _, rfl, (fun j x h => by omega), (fun a c y h1 h2 => by omega), HBOX.out, HB.out⟩
        case round =>
          clear HBOX HB
          obtain ⟨i, hil, rfl, hge, hone, hbox, hb⟩ := hrel
          obtain ⟨W0, rfl⟩ : ∃ W0, W0 = wr := ⟨_, rfl⟩
          have HGE := Nu.hid hge
          have HONE := Nu.hid hone
          have HBOX := Nu.hid hbox
          have HB := Nu.hid hb
          obtain ⟨x0, x1, -⟩ := pair_cells hbox
          clear hge hone hbox hb
          by_cases hli : i < l.length
          · have hlii : (i : Int) < (l.length : Int) := by omega
            have hi00 : (0 : Int) ≤ (i : Int) := by omega
            obtain ⟨x, hxi⟩ : ∃ x, l[i]? = some x := ⟨_, List.getElem?_eq_getElem hli⟩
            have HXI := Nu.hid hxi
            obtain ⟨lb, lo', rfl, lc⟩ := HL.out.elem hxi
            have hlbl : lb < w.heap.size := block_lt_of_cell lc
            have c1 := (HB.out.cell (p := ⟨lb, lo' + i, none⟩) hlbl).trans lc
            have HCALL := Nu.hid (HF.out W0 k x (HE.out.later HB.out))
            obtain ⟨H, hH⟩ : ∃ H, H = Ro.hl es k x := ⟨_, rfl⟩
            rw [← hH] at HCALL
            have HH := Nu.hid hH
            clear hxi lc hH
            go_wp2_with (go_at_call 27; refine HCALL.out.mono ?_; rintro e w1 ⟨rfl, hb⟩; refine Hid.out ?_)
            refine Nu.hid ?_
            have HB1 := Nu.hid (HB.out.trans (hb.mono HB.out.size))
            have HBOX1 := Nu.hid ((hb.block _ (lt_of_block HBOX.out)).trans HBOX.out)
            clear hb HCALL x0 x1 c1 HB HBOX
            by_cases hneg : H < 0
            · have HNEG := Nu.hid hneg
              go_wp2
              go_ret
              refine ⟨HB1.out, .inr ⟨fun h => ?_, rfl⟩⟩
              have := (h.2.1 k l HLK.out).1 x (List.mem_of_getElem? HXI.out)
              have h2 := HNEG.out
              rw [HH.out] at h2
              omega
            · have HNEG := Nu.hid hneg
              have hiC : (i : Int) ≤ (C : Int) := by omega
              have hiC2 : i ≤ C := by omega
              go_wp2
              go_loopw [40] (fun c wr => ∃ j : Nat, j ≤ i ∧ c = .int .i64 (j : Int) ∧ (∀ a, a < j → l[a]? ≠ some x) ∧ w1 = wr) (fun c _ => i - (intOf c).toNat)
              case atStart => exact ⟨0, Nat.zero_le _, rfl, (fun a h => by omega), rfl⟩
              case round =>
                obtain ⟨j, hj, rfl, hno, rfl⟩ := hrel
                have HNO := Nu.hid hno
                clear hno
                by_cases hji : j < i
                · have hjii : (j : Int) < (i : Int) := by omega
                  have hj0 : (0 : Int) ≤ (j : Int) := by omega
                  obtain ⟨y, hyj⟩ : ∃ y, l[j]? = some y := ⟨_, List.getElem?_eq_getElem (by omega)⟩
                  obtain ⟨lb', lo'', hle2, lc'⟩ := HL.out.elem hyj
                  cases hle2
                  have c2 := (HB1.out.cell (p := ⟨lb, lo' + j, none⟩) hlbl).trans lc'
                  have HYJ := Nu.hid hyj
                  have hwj : IntKind.i64.wrap ((j : Int) + 1) = (j : Int) + 1 := by rw [IntKind.wrap_i64]; omega
                  clear lc' hyj
                  by_cases hyx : y = x
                  · subst hyx
                    go_wp2
                    go_ret
                    refine ⟨HB1.out, .inr ⟨fun h => ?_, rfl⟩⟩
                    have := Ro.nodup_at (h.2.1 k l HLK.out).2 HYJ.out HXI.out
                    omega
                  · have hyx1 : (y == x) = false := beq_false_of_ne hyx
                    have HYX := Nu.hid hyx
                    clear hyx
                    go_wp2
                    go_roundw
                    case rel =>
                      refine ⟨j + 1, by omega, by go_num, fun a ha e => ?_, by first | rfl | trivial⟩
                      by_cases e2 : a = j
                      · subst e2
                        rw [HYJ.out] at e
                        exact HYX.out (Option.some.inj e)
                      · exact HNO.out a (by omega) e
                    case measure => simp [intOf]; omega
                · have hjii : ¬ (j : Int) < (i : Int) := by omega
                  obtain rfl : j = i := by omega
                  have hwi : IntKind.i64.wrap ((j : Int) + 1) = (j : Int) + 1 := by rw [IntKind.wrap_i64]; omega
                  go_wp2
                  go_roundw
                  case rel =>
                    refine ⟨j + 1, by omega, by go_num, fun a y ha hy => ?_, fun a c y h1 h2 hy1 hy2 => ?_, HBOX1.out, HB1.out⟩
                    · by_cases e : a = j
                      · subst e
                        rw [HXI.out] at hy
                        cases hy
                        have := HNEG.out
                        rw [HH.out] at this
                        omega
                      · exact HGE.out a y (by omega) hy
                    · by_cases e : c = j
                      · subst e
                        rw [HXI.out] at hy2
                        cases hy2
                        exact HNO.out a h1 hy1
                      · exact HONE.out a c y h1 (by omega) hy1 hy2
                  case measure => simp [intOf]; omega
          · have hlii : ¬ (i : Int) < (l.length : Int) := by omega
            obtain rfl : i = l.length := by omega
            have HSUM : Hid (Ro.sumTo ms (k + 1) = S + l.length) := by
              show _ = _
              rw [Ro.sumTo_succ, HSS.out]
              have : ms.getD k [] = l := by simp [List.getD, HLK.out]
              rw [this]
            have HN : Hid (Ro.Nice es k l) := by
              refine ⟨fun x hx => ?_, ?_⟩
              · obtain ⟨j, hj⟩ := List.mem_iff_getElem?.1 hx
                exact HGE.out j x (Ro.lt_at hj) hj
              · refine List.pairwise_iff_getElem.2 fun a c ha hc hac e => ?_
                exact HONE.out a c l[a] hac hc (by simp [ha]) (by rw [e]; simp [hc])
            have hfewl := HN.out.few
            have hdb : Ro.deg es k ≤ 2 * es.length := Cs.out_len_le _
            have hws : IntKind.i64.wrap ((S : Int) + (l.length : Int)) = (S : Int) + (l.length : Int) := by rw [IntKind.wrap_i64]; omega
            clear hfewl hdb
            go_wp2
            go_roundw
            case rel =>
              refine ⟨k + 1, by omega, by go_num, by rw [HSUM.out]; go_num, fun v l' hv hl' => ?_, HBOX.out, HB.out⟩
              by_cases e : v = k
              · subst e
                rw [HLK.out] at hl'
                cases hl'
                exact HN.out
              · exact HNICE.out v l' (by omega) hl'
            case measure => simp [intOf]; omega
      · have hlti : ¬ (k : Int) < (m : Int) := by omega
        obtain rfl : k = m := by omega
        obtain ⟨x0, x1, -⟩ := pair_cells HBOX.out
        obtain ⟨S, hS⟩ : ∃ S, S = Ro.sumTo ms k := ⟨_, rfl⟩
        rw [← hS]
        have HSS := Nu.hid hS
        clear hS hsum hdeg
        by_cases hse : S = 2 * es.length
        · have hse1 : ((S : Int) == 2 * (es.length : Int)) = true := by simp; omega
          have HSE := Nu.hid hse
          clear hse
          go_wp2
          go_ret
          refine ⟨HB.out, .inl ⟨⟨HM.out, fun v l hl => HNICE.out v l (by rw [← HM.out]; exact Ro.lt_at hl) hl, by rw [← HSS.out]; exact HSE.out⟩, rfl⟩⟩
        · have hse1 : ((S : Int) == 2 * (es.length : Int)) = false := beq_false_of_ne (by omega)
          have HSE := Nu.hid hse
          clear hse
          go_wp2
          go_ret
          refine ⟨HB.out, .inr ⟨fun h => HSE.out (by rw [HSS.out]; exact h.2.2), rfl⟩⟩
  · have hne : ((ms.length : Int) != (m : Int)) = true := by simp; omega
    have HM := Nu.hid hm
    clear hm
    go_enter Try.func11, Try.ntmps11
    go_wp2
    go_ret
    exact ⟨HB0.out, .inr ⟨fun h => HM.out h.1, rfl⟩⟩

end Go.Proofs.Ytloabkgojopeaab

/-
  Edges gone through one after another: the first, the last.
-/
namespace Go.Proofs.Ytloabkgojopeaab
open Go.RowKit Go.Sort

theorem Si.UpTo.first {n : Int} {es : List (Int × Int)} {l p : Int × Int} (h : Si.UpTo n es 0 l) (ho : Si.ok n p) : Si.lt l p := by
  rcases h.2.2 with ⟨_, rfl⟩ | ⟨k', hk, _⟩
  · unfold Si.ok at ho
    unfold Si.lt
    dsimp only
    omega
  · omega

theorem Si.UpTo.last {n : Int} {es : List (Int × Int)} {k : Nat} {l : Int × Int} (h : Si.UpTo n es (k + 1) l) : es[k]? = some l := by
  rcases h.2.2 with ⟨h0, _⟩ | ⟨k', hk, hl⟩
  · omega
  · obtain rfl : k = k' := by omega
    exact hl

end Go.Proofs.Ytloabkgojopeaab

/-
  The order of edges as the document asks it.
-/
namespace Go.Proofs.Ytloabkgojopeaab
open Go.RowKit Go.Sort

set_option maxHeartbeats 1000000 in
theorem less_any (a b : Int × Int) (w : World) : Calls Try.prog 20 #[edgeVal a, edgeVal b] w fun e w' => e = .returned (.bool (decide (Si.lt a b))) ∧ ∃ q os', w' = grow (w.drewN q) os' := by
  unfold edgeVal
  by_cases h1 : a.1 < b.1
  · have hd : decide (Si.lt a b) = true := by simp [Si.lt, h1]
    rw [hd]
    go_enter Try.func20, Try.ntmps20
    go_wp2
    go_ret
    exact ⟨rfl, 0, _, by rw [alloc_eq_grow, alloc_eq_grow, grow_grow]; rfl⟩
  · by_cases h2 : a.1 = b.1
    · by_cases h3 : a.2 < b.2
      · have hd : decide (Si.lt a b) = true := by simp [Si.lt, h2, h3]
        rw [hd]
        go_enter Try.func20, Try.ntmps20
        go_wp2
        go_ret
        exact ⟨rfl, 0, _, by rw [alloc_eq_grow, alloc_eq_grow, grow_grow]; rfl⟩
      · have hd : decide (Si.lt a b) = false := by simp [Si.lt, h1, h3]
        rw [hd]
        go_enter Try.func20, Try.ntmps20
        go_wp2
        go_ret
        exact ⟨rfl, 0, _, by rw [alloc_eq_grow, alloc_eq_grow, grow_grow]; rfl⟩
    · have hd : decide (Si.lt a b) = false := by simp [Si.lt, h1, h2]
      rw [hd]
      go_enter Try.func20, Try.ntmps20
      go_wp2
      go_ret
      exact ⟨rfl, 0, _, by rw [alloc_eq_grow, alloc_eq_grow, grow_grow]; rfl⟩

theorem grown_of_grow {w w' : World} (h : ∃ (q : Nat) (os' : Array Obj), w' = grow (w.drewN q) os') : Below w.heap.size w w' := by
  obtain ⟨q, os', rfl⟩ := h
  exact grow_below w q os'

end Go.Proofs.Ytloabkgojopeaab
