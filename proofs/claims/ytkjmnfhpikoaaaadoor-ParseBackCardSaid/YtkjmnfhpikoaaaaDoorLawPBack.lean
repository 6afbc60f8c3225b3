/-
  Proved: for every number and every list of pairs the law ParseBack answers true, and the list reads afterwards as before.
-/
import Derived.Test.YtkjmnfhpikoaaaaDoorDoor
import Derived.Test.YtkjmnfhpikoaaaaDoorPaCopy
import Derived.Test.YtkjmnfhpikoaaaaDoorPaFixed
import Derived.Deep.SlicePairs
namespace Go.Proofs.YtkjmnfhpikoaaaaDoor
open Go.ChangeShapes Go.WideShapes Go.ChangeAt Go.RowKit

theorem HasInts.drew {w : World} {ao : Option Addr} {n : Nat} {z : Nat → Int} (h : HasInts w ao n z) : HasInts w.drew ao n z := h

namespace lawPBack

theorem cellsPr : Tryd.prog.cellsOf 36 = 2 := by kernel_rfl
theorem bytesPr : Tryd.prog.bytesOf 36 = 16 := by kernel_rfl

def intIn : Value → Int
  | .int _ z => z
  | _ => 0

/-- A list of pairs that came in. -/
theorem prs_of_trod {H : Type} {enc : TypeId × Value → H} {W : World} {a : Option Addr} {len cap : Nat} {d : DataW H} {p : List MemPlace} {ts : List TypeId} {ds : List (DataW H)} {j : Nat}
    (h : DataW.Trod enc Tryd.prog W 0 (fun _ => true) true 22 (.slice a len cap) d p) (hsz : (DataW.weightsEach Tryd.prog ts ds).all (· ≤ reachBytes) = true) (hts : ts[j]? = some 22) (hds : ds[j]? = some d) :
    ∃ qs : List (Int × Int), qs.length = len ∧ HasPrs W a qs ∧ qs.length * 16 ≤ 140737488351232 := by
  obtain ⟨fuel, hf⟩ := h
  rcases Deep.open_slice_pairs Tryd.underlying22 Tryd.underlying36 cellsPr rfl rfl cellsInt cellsInt hf with ⟨hcs, _⟩ | ⟨x, l, c, m, f2, V0, V1, D0, D1, P0, P1, hcs, _, hl, hm, hmm, hx, hcell⟩
  · simp [Value.cells] at hcs
    obtain ⟨rfl, rfl, rfl⟩ := hcs
    exact ⟨[], rfl, fun i q hq => by simp at hq, by simp⟩
  · simp [Value.cells] at hcs
    obtain ⟨rfl, rfl, rfl⟩ := hcs
    simp only [Prod.mk.injEq] at hx
    obtain ⟨rfl, _⟩ := hx
    have hmc : m = cap := by simpa using hmm
    have hw := sized_slice hsz hts hds Tryd.underlying22
    rw [bytesPr] at hw
    simp only [List.length_map, List.length_range, reachBytes] at hw
    refine ⟨(List.range len).map fun i => (intIn (V0 i), intIn (V1 i)), by simp, fun i q hq => ?_, by simp; omega⟩
    have hi : i < len := by
      have := (List.getElem?_eq_some_iff.1 hq).1
      simpa using this
    simp [hi] at hq
    subst hq
    obtain ⟨c0, c1, t0, t1⟩ := hcell i (by omega)
    obtain ⟨z0, e0, _, w0⟩ := DataW.trod_int Tryd.underlying3 t0
    obtain ⟨z1, e1, _, w1⟩ := DataW.trod_int Tryd.underlying3 t1
    simp at e0 e1
    rw [e0] at c0
    rw [e1] at c1
    have b0 := bounds_i64 w0
    have b1 := bounds_i64 w1
    obtain ⟨b, o, sp⟩ := x
    have hsp : sp = none := by
      obtain ⟨c00, _⟩ := hcell 0 (by omega)
      simpa [Addr.add] using World.cell?_spot c00
    subst hsp
    have ea : ∀ k, ((⟨b, o, none⟩ : Addr).add k) = ⟨b, o + k, none⟩ := fun k => by
      by_cases h0 : k = 0 <;> simp [Addr.add, h0]
    rw [ea] at c0 c1
    rw [e0, e1]
    simp only [intIn]
    exact ⟨⟨b0, b1⟩, b, o, rfl, c0, by rw [← Nat.add_assoc] at c1; exact c1⟩

set_option maxRecDepth 100000 in
set_option maxHeartbeats 8000000 in
theorem walk (n : Int) (ao : Option Addr) (cap : Nat) (qs : List (Int × Int)) (w : World) (hq : HasPrs w ao qs) (hlen : qs.length * 16 ≤ 140737488351232) (ht : Tab w) :
    Calls Tryd.prog 3 #[.int .i64 n, .slice ao qs.length cap] w fun e w' => e = .returned (.bool true) ∧ Below w.heap.size w w' := by
  have HQ := Nu.hid hq
  have HTAB := Nu.hid ht
  clear hq ht
  by_cases hn0 : 0 ≤ n
  rotate_left
  · have j0 : n < 0 := by omega
    go_enter Tryd.func3, Tryd.ntmps3
    go_wp2_with (go_at_call 4; refine (fixed_any _).mono ?_; rintro e w1 ⟨rfl, hb1⟩)
    go_ret
    exact ⟨rfl, hb1⟩
  by_cases hn1 : n ≤ 1048576
  rotate_left
  · have j0 : ¬ (n < 0) := by omega
    have j1 : 1048576 < n := by omega
    go_enter Tryd.func3, Tryd.ntmps3
    go_wp2_with (go_at_call 4; refine (fixed_any _).mono ?_; rintro e w1 ⟨rfl, hb1⟩)
    go_ret
    exact ⟨rfl, hb1⟩
  have j0 : ¬ (n < 0) := by omega
  have j1 : ¬ (1048576 < n) := by omega
  go_enter Tryd.func3, Tryd.ntmps3
  go_wp2_with (go_at_call 4; refine (fixed_any _).mono ?_; rintro e w1 ⟨rfl, hb1⟩; refine Hid.out ?_)
  refine Nu.hid ?_
  have HB1 := Nu.hid hb1
  clear hb1
  go_wp2_with (go_at_call 5; refine (written_any n ⟨hn0, hn1⟩ ao cap qs _ (HQ.out.later HB1.out) hlen (HTAB.out.below HB1.out)).mono ?_; refine Hid.out ?_)
  refine Nu.hid ?_
  rintro e w2 ⟨hb2, vb, vf, rfl, hob, hof⟩
  obtain ⟨fit, hfit⟩ : ∃ fit, fit = qs.filter (Pa.fitB n) := ⟨_, rfl⟩
  rw [← hfit] at hob hof
  have hin : ∀ p ∈ fit, (0 ≤ p.1 ∧ p.1 < n) ∧ 0 ≤ p.2 ∧ p.2 < n := fun p hp => by
    rw [hfit] at hp
    exact Pa.fitB_iff.1 (List.mem_filter.1 hp).2
  obtain ⟨L, hL⟩ : ∃ L, L = Pa.body ((n, (fit.length : Int)) :: fit) := ⟨_, rfl⟩
  rw [← hL] at hob
  have HB2 := Nu.hid (HB1.out.trans (hb2.mono HB1.out.size))
  have HIN := Nu.hid hin
  have HL := Nu.hid hL
  obtain ⟨gb, bc, rfl, hbc, hgB, hgb, hcell⟩ := hob.cells
  obtain ⟨fa, fc, rfl, hfx⟩ := OwnPrs.at hof
  have HFX : Hid (PairsAt w2 (.slice fa fit.length fc) fit) := ⟨fa, fc, rfl, hfx⟩
  have HCELL := Nu.hid hcell
  have hfl : fit.length ≤ qs.length := by rw [hfit]; exact List.length_filter_le _ _
  clear hb2 hfit hin hL hob hof hfx hcell
  by_cases hm : 2097152 < fit.length
  · have j2 : (2097152 : Int) < (fit.length : Int) := by omega
    go_wp2
    go_ret
    exact ⟨rfl, HB2.out⟩
  have j2 : ¬ ((2097152 : Int) < (fit.length : Int)) := by omega
  by_cases hbl : 16777116 < L.length
  · have j3 : (16777116 : Int) < (L.length : Int) := by omega
    go_wp2
    go_ret
    exact ⟨rfl, HB2.out⟩
  have j3 : ¬ ((16777116 : Int) < (L.length : Int)) := by omega
  have hs2 : w.heap.size ≤ w2.heap.size := HB2.out.size
  go_wp2_with (at_builtin; refine wpList_copyB rfl _ _ rfl w2 gb L.length bc L rfl rfl rfl HCELL.out (by omega) ?_; refine Hid.out ?_)
  refine Nu.hid ?_
  intro v3 w3 hob3 hb3
  obtain ⟨g3, c3, rfl, hc3, hgB3, hg3, htx3⟩ := hob3.text
  have HTX3 := Nu.hid htx3
  have HB23 := Nu.hid hb3
  clear hob3 htx3 hb3
  have hraw := Pa.raw_written (fit := fit) ⟨hn0, hn1⟩ HIN.out (by omega) (by rw [← HL.out]; omega)
  rw [← HL.out] at hraw
  have HRAW := Nu.hid hraw
  clear hraw
  go_wp2_with (go_at_call 6; refine (raw_any _ L.length c3 _ _ HTX3.out (by intro x hx; cases hx; exact hg3) (by unfold maxLen; omega) hc3).mono ?_; rw [HRAW.out]; refine Hid.out ?_)
  refine Nu.hid ?_
  rintro e w4 ⟨hb4, hx⟩
  rcases hx with ⟨x, hr, _⟩ | ⟨s, v, hr, rfl, hop⟩
  · cases hr
  cases hr
  obtain ⟨pa, pc, rfl, hpx⟩ := hop.at
  have HPX : Hid (PairsAt w4 (.slice pa fit.length pc) fit) := ⟨pa, pc, rfl, hpx⟩
  have HB24 := Nu.hid (HB23.out.trans (hb4.mono HB23.out.size))
  have HB4 := Nu.hid (HB2.out.trans (HB24.out.mono hs2))
  unfold rawVal rejVal
  dsimp only
  clear hb4 hop hpx
  have eqR := eqReject
  have jn : (n != n) = false := by simp
  have jl : ((fit.length : Int) != (fit.length : Int)) = false := by simp
  go_wp2_with fail
  clear eqR
  generalize hX : (w4.alloc (.cells #[.int .i64 n, .slice pa fit.length pc] 29)).alloc (.cells #[.int .i64 0, .int .i64 0] 32) = X
  have hbX : Below w4.heap.size w4 X := by rw [← hX]; exact ((Below.refl _ _).alloc (Nat.le_refl _) _).alloc (by simp) _
  have r1 : X.cell? ⟨w4.heap.size, 1, none⟩ = some (.slice pa fit.length pc) := by
    rw [← hX]
    refine (two_cells (a := .int .i64 n) (t := 29) ?_).2.1
    rw [Below.heap_alloc _ _ _ (by simp)]
    exact heap_alloc_new w4 _
  have hsX : w4.heap.size < X.heap.size := by rw [← hX]; simp; omega
  have HPXX := Nu.hid (HPX.out.below hbX (Nat.le_refl _))
  have HB2X := Nu.hid (HB24.out.trans (hbX.mono HB24.out.size))
  have HFXX := Nu.hid (HFX.out.below HB2X.out (Nat.le_refl _))
  have HBX := Nu.hid (HB4.out.trans (hbX.mono HB4.out.size))
  have hs2X : w2.heap.size ≤ X.heap.size := HB2X.out.size
  clear hX hbX
  go_loopw [64] (fun c wr => ∃ k : Nat, k ≤ fit.length ∧ c = .int .i64 k ∧ Below X.heap.size X wr) (fun c _ => fit.length - (intOf c).toNat)
  case atStart => exact ⟨0, Nat.zero_le _, rfl, Below.refl _ _⟩
  case round =>
    obtain ⟨k, hk, rfl, hbw⟩ := hrel
    have hsw := hbw.size
    by_cases hlt : k < fit.length
    · have hlti : (k : Int) < (fit.length : Int) := by omega
      have hk0 : (0 : Int) ≤ (k : Int) := by omega
      obtain ⟨fa', fc', efa, hfx⟩ := HFXX.out.below hbw (Nat.le_refl _)
      cases efa
      obtain ⟨F, rfl, f0, f1⟩ := hfx k fit[k] (by simp [hlt])
      obtain ⟨pa', pc', epa, hpx⟩ := HPXX.out.below hbw (Nat.le_refl _)
      cases epa
      obtain ⟨P, rfl, p0, p1⟩ := hpx k fit[k] (by simp [hlt])
      have hF : F < wr.heap.size := block_lt_of_cell f0
      have hP : P < wr.heap.size := block_lt_of_cell p0
      have r1w : wr.cell? ⟨w4.heap.size, 1, none⟩ = some (.slice (some ⟨P, 0, none⟩) fit.length pc) := (hbw.cell (p := ⟨w4.heap.size, 1, none⟩) hsX).trans r1
      have hR : w4.heap.size < wr.heap.size := by omega
      have HBW := Nu.hid hbw
      generalize fit[k].1 = u at f0 p0
      generalize fit[k].2 = v at f1 p1
      clear hbw hfx hpx
      have eqP := eqPair
      go_wp2_with fail
      go_quiet (fail)
      clear eqP
      go_wp2
      go_roundw
      case rel => exact ⟨k + 1, by omega, by go_num, below_drewN (HBW.out.alloc hsw _) _⟩
      case measure => simp [intOf]; omega
    · have hd : ¬ ((k : Int) < (fit.length : Int)) := by omega
      have HBW := Nu.hid hbw
      clear hbw
      have HB2W := Nu.hid (HB2X.out.trans (HBW.out.mono hs2X))
      have HBWW := Nu.hid (HBX.out.trans (HBW.out.mono HBX.out.size))
      have hs2w : w2.heap.size ≤ wr.heap.size := HB2W.out.size
      have hsww : w.heap.size ≤ wr.heap.size := HBWW.out.size
      have HCELLW : Hid (∀ j (hj : j < L.length), wr.cell? ⟨gb, j, none⟩ = some (.int .u8 (L[j].toNat : Int))) := Nu.hid (fun j hj => (HB2W.out.cell (p := ⟨gb, j, none⟩) hgb).trans (HCELL.out j hj))
      go_wp2_with (at_builtin; refine wpList_copyB rfl _ _ rfl wr gb L.length bc L rfl rfl rfl HCELLW.out (by omega) ?_; refine Hid.out ?_)
      refine Nu.hid ?_
      intro v5 w5 hob5 hb5
      have HB5 := Nu.hid hb5
      have HOB5 := Nu.hid hob5
      have hs5 : wr.heap.size ≤ w5.heap.size := hb5.size
      clear hob5 hb5
      go_wp2_with (at_builtin; refine wpList_append_B rfl _ _ rfl w5 wr.heap.size v5 L [48, 32, 48, 10] rfl rfl HOB5.out (by simp; omega) hs5 ?_; refine Hid.out ?_)
      refine Nu.hid ?_
      intro v6 w6 hob6 hg6
      have hb56 : Below wr.heap.size wr w6 := HB5.out.grown hg6 hs5 (fun q hq => by
        obtain ⟨g, c, e, _, hB, _⟩ := HOB5.out.cells
        rw [e] at hq
        simp [Value.ownBlock] at hq
        omega)
      obtain ⟨g6, c6, rfl, hc6, hgB6, hg6', htx6⟩ := hob6.text
      have hmore := Pa.raw_more (fit := fit) ⟨hn0, hn1⟩ HIN.out (by omega) (by
        have e : Pa.body ((n, (fit.length : Int)) :: (fit ++ [(0, 0)])) = L ++ [48, 32, 48, 10] := by rw [HL.out]; exact Pa.body_more _ _
        rw [e]
        simp
        omega)
      rw [Pa.body_more, ← HL.out] at hmore
      have hl6 : (L ++ [48, 32, 48, 10]).length = L.length + 4 := by simp
      rw [hl6] at hmore htx6 hc6 ⊢
      generalize Nu.ofBytes (L ++ [48, 32, 48, 10]) = g6t at hmore htx6
      have HMORE := Nu.hid hmore
      have HTX6 := Nu.hid htx6
      have HB6 := Nu.hid hb56
      clear hob6 hg6 hb56 htx6 hmore hl6
      go_wp2_with (go_at_call 6; refine (raw_any _ (L.length + 4) c6 g6t _ HTX6.out (by intro x hx; cases hx; exact hg6') (by unfold maxLen; omega) hc6).mono ?_; rw [HMORE.out]; refine Hid.out ?_)
      refine Nu.hid ?_
      rintro e w7 ⟨hb7, hx⟩
      rcases hx with ⟨x, hr, rfl⟩ | ⟨s, v, hr, _⟩
      rotate_left
      · cases hr
      cases hr
      have HB7 := Nu.hid (HB6.out.trans (hb7.mono HB6.out.size))
      have hs7 : wr.heap.size ≤ w7.heap.size := HB7.out.size
      unfold rawVal rejVal
      dsimp only
      clear hb7
      have eqR := eqReject
      by_cases hf0 : fit = []
      · have jf : ((fit.length : Int) == 0) = true := by rw [hf0]; rfl
        have HBW7 := Nu.hid (HBWW.out.trans (HB7.out.mono hsww))
        go_wp2
        go_ret
        refine ⟨rfl, ?_⟩
        exact (HBW7.out.alloc HBW7.out.size _).alloc (by have := HBW7.out.size; simp; omega) _
      · have jf : ((fit.length : Int) == 0) = false := by simpa using hf0
        obtain ⟨ini, p, hip⟩ : ∃ ini p, fit = ini ++ [p] := ⟨_, _, (List.dropLast_concat_getLast hf0).symm⟩
        obtain ⟨S, hS⟩ : ∃ S, S = Pa.row p ++ [10] := ⟨_, rfl⟩
        obtain ⟨L', hL'⟩ : ∃ L', L' = Pa.body ((n, (fit.length : Int)) :: ini) := ⟨_, rfl⟩
        have hLS : L = L' ++ S := by
          rw [HL.out, hL', hS]
          conv => lhs; rw [show ((n, (fit.length : Int)) :: fit) = ((n, (fit.length : Int)) :: ini) ++ [p] by rw [List.cons_append, ← hip]]
          unfold Pa.body
          rw [List.flatMap_append]
          simp
        have hp := HIN.out p (by rw [hip]; simp)
        have hfew := Pa.raw_few (fit := ini) (p := p) ⟨hn0, hn1⟩ (fun q hq => HIN.out q (by rw [hip]; exact List.mem_append_left _ hq)) (by have : fit.length = ini.length + 1 := by rw [hip]; simp
                                                                                                                                            omega) (by
          rw [← hip, ← hL']
          have : L.length = L'.length + S.length := by rw [hLS]; simp
          omega)
        rw [← hip, ← hL'] at hfew
        have hll : L.length = L'.length + S.length := by rw [hLS]; simp
        have hsub : (L.length : Int) - (S.length : Int) = (L'.length : Int) := by omega
        have b0 : (0 : Int) ≤ (L'.length : Int) := by omega
        have b1 : (L'.length : Int) ≤ (bc : Int) := by omega
        have b2 : L'.length ≤ bc := by omega
        have hfl1 : fit.length = ini.length + 1 := by rw [hip]; simp
        have hcl : ∀ j (hj : j < L'.length), w2.cell? ⟨gb, j, none⟩ = some (.int .u8 (L'[j].toNat : Int)) := fun j hj => by
          have := HCELL.out j (by omega)
          rw [this]
          congr 3
          simp [hLS, List.getElem_append_left hj]
        have HCL := Nu.hid hcl
        have HFEW := Nu.hid hfew
        have HS := Nu.hid hS
        have HIP := Nu.hid hip
        have HLS := Nu.hid hLS
        have HLL := Nu.hid hll
        have hsl : L'.length ≤ 16777216 := by omega
        clear hcl hfew hS hip hLS hll hL'
        have HFX7 := Nu.hid (HFX.out.below (HB2W.out.trans (HB7.out.mono hs2w)) (Nat.le_refl _))
        go_wp2_with fail
        clear eqR
        generalize hX7 : (w7.alloc (.cells #[.int .i64 0, .slice none 0 0] 29)).alloc (.cells #[.int .i64 26, .int .i64 L.length] 32) = X7
        have hbX7 : Below w7.heap.size w7 X7 := by rw [← hX7]; exact ((Below.refl _ _).alloc (Nat.le_refl _) _).alloc (by simp) _
        obtain ⟨fa', fc', efa, hfx⟩ := HFX7.out.below hbX7 (Nat.le_refl _)
        cases efa
        obtain ⟨F, rfl, f0, f1⟩ := hfx ini.length p (by rw [HIP.out]; simp)
        have HBWX := Nu.hid ((HBWW.out.trans (HB7.out.mono hsww)).trans (hbX7.mono (by omega)))
        have HB2X7 := Nu.hid ((HB2W.out.trans (HB7.out.mono hs2w)).trans (hbX7.mono (by omega)))
        have hF : F < X7.heap.size := block_lt_of_cell f0
        have hsX7 : w.heap.size ≤ X7.heap.size := HBWX.out.size
        have hs2X7 : w2.heap.size ≤ X7.heap.size := HB2X7.out.size
        have HTABX := Nu.hid (HTAB.out.below HBWX.out)
        clear hX7 hbX7 hfx
        obtain ⟨u, v⟩ := p
        dsimp only at f0 f1 hp
        have i0 : (0 : Int) ≤ (ini.length : Int) := by omega
        have i1 : (ini.length : Int) < (fit.length : Int) := by omega
        have hw0 : (fit.length : Int) - 1 = (ini.length : Int) := by omega
        have hw2 : IntKind.i64.wrap (ini.length : Int) = (ini.length : Int) := by simp [IntKind.wrap, IntKind.bits, IntKind.signed]; omega
        have HFL1 := Nu.hid hfl1
        clear hfl1
        go_region_held3 (fun w' => w'.cell? ⟨F, ini.length * 2, none⟩ = some (.int .i64 u) ∧ w'.cell? ⟨F, ini.length * 2 + 1, none⟩ = some (.int .i64 v))
          (first
            | go_keep
            | (go_split_ands
               refine ⟨?_, ?_⟩ <;> (refine (hb8.cell (p := ⟨_, _, none⟩) ?_).trans ?_ <;> first | assumption | (simp; omega))))
          ((go_at_call 7; refine (numline_any _ 2 2 (Pa.two u v) _ (ints_two X7 _ rfl u v (by omega) (by omega)).drew (by decide) (HTABX.out.below ((Below.refl _ _).alloc (Nat.le_refl _) _).drew)).mono ?_; rw [Pa.lineTo_two, ← HS.out]; rintro e w8 ⟨rfl, hb8⟩))
        have hbX8 : Below X7.heap.size X7 w8 := ((Below.refl _ _).alloc (Nat.le_refl _) _).drew.trans (hb8.mono (by show X7.heap.size ≤ (X7.alloc _).heap.size; simp))
        have HB28 := Nu.hid (HB2X7.out.trans (hbX8.mono hs2X7))
        have HBW8 := Nu.hid (HBWX.out.trans (hbX8.mono hsX7))
        have hsw8 : w.heap.size ≤ w8.heap.size := HBW8.out.size
        have HCL8 : Hid (∀ j (hj : j < L'.length), w8.cell? ⟨gb, j, none⟩ = some (.int .u8 (L'[j].toNat : Int))) := Nu.hid (fun j hj => (HB28.out.cell (p := ⟨gb, j, none⟩) hgb).trans (HCL.out j hj))
        clear hb8 hbX8 f0 f1 hw0 hw2 i1
        go_wp2_with (at_builtin; refine wpList_copyB rfl _ _ rfl w8 gb L'.length bc L' rfl rfl rfl HCL8.out (by omega) ?_; refine Hid.out ?_)
        refine Nu.hid ?_
        intro v9 w9 hob9 hb9
        obtain ⟨g9, c9, rfl, hc9, hgB9, hg9, htx9⟩ := hob9.text
        have HTX9 := Nu.hid htx9
        have HB9 := Nu.hid (HBW8.out.trans (hb9.mono hsw8))
        clear hob9 htx9 hb9
        go_wp2_with (go_at_call 6; refine (raw_any _ L'.length c9 _ _ HTX9.out (by intro x hx; cases hx; exact hg9) (by unfold maxLen; omega) hc9).mono ?_; rw [HFEW.out]; refine Hid.out ?_)
        refine Nu.hid ?_
        rintro e w10 ⟨hb10, hx⟩
        rcases hx with ⟨x, hr, rfl⟩ | ⟨s, v, hr, _⟩
        rotate_left
        · cases hr
        cases hr
        have HB10 := Nu.hid (HB9.out.trans (hb10.mono HB9.out.size))
        have hs10 : w.heap.size ≤ w10.heap.size := HB10.out.size
        unfold rawVal rejVal
        dsimp only
        clear hb10
        have eqR := eqReject
        go_wp2
        go_ret
        refine ⟨by simp, ?_⟩
        exact (HB10.out.alloc hs10 _).alloc (by simp; omega) _

/-- What the walk gives, for every argument and every world that holds the tables. -/
theorem contract (H : Type) (enc : TypeId × Value → H) (W : World) (base : Nat) (args : Array Value) (ds gs : List (DataW H)) (before : List MemPlace)
    (hval : ∀ (j : Nat) t v, Tryd.f3.params[j]? = some t → args[j]? = some v → Value.okWide Tryd.prog W .any base t v)
    (hW : DataW.Whole enc Tryd.prog Tryd.f3.params.toList Rows.parseBackSpec.vars false W args.toList ds gs before)
    (hsz : (DataW.weightsEach Tryd.prog (Tryd.f3.params.toList ++ (OpenSpec.ofChange Rows.parseBackSpec).bare.plain.varTypes Tryd.prog) (ds ++ gs)).all (· ≤ reachBytes) = true)
    (hL : laidMet Tryd.prog listed W) :
    Calls Tryd.prog 3 args W fun e W' => ∃ v, e = .returned v ∧ Rows.parseBackSpec.post enc Tryd.prog Tryd.f3 false true false false W args v W' := by
  have hW' := hW
  obtain ⟨p, q, hA0, hV, rfl, hfz, hnd⟩ := hW
  have hA : DataW.TrodAll enc Tryd.prog W 0 (fun _ => true) true Tryd.f3.params.toList args.toList ds p := hA0
  rw [Tryd.params3] at hA hval hsz
  obtain ⟨v0, vs0, d0, ds0, p0, q0, hargs, rfl, rfl, h0, r0⟩ := trodAll_cons hA
  obtain ⟨v1, vs1, d1, ds1, p1, q1, rfl, rfl, rfl, h1, r1⟩ := trodAll_cons r0
  obtain ⟨rfl, rfl, rfl⟩ := trodAll_nil r1
  obtain rfl : args = #[v0, v1] := by cases args; simp_all
  obtain ⟨rfl, rfl⟩ := trodVars_none hV
  obtain ⟨a0, rfl, rfl, rfl, w0⟩ := open_int Tryd.underlying3 (hval 0 3 v0 rfl rfl) h0
  obtain ⟨a1, len1, cap1, rfl⟩ := okWide_slice Tryd.underlying22 (hval 1 22 v1 rfl rfl)
  have k1 := h1
  have lt1 : ∀ x ∈ p1, x.block < W.heap.size := by obtain ⟨m, hm⟩ := k1; exact DataW.trod_lt m _ _ _ hm
  obtain ⟨qs, rfl, w1, u1⟩ := prs_of_trod (j := 1) h1 hsz rfl rfl
  clear hA0
  refine (walk a0 a1 cap1 qs W w1 u1 (table hL)).mono fun e W' ⟨he, bel⟩ => ?_
  subst he
  exact ⟨_, rfl, _, _, _, [], _, [], hW', trodAll_mk1 (shut_bool Tryd.underlying4 _), (trodAll_cons_mk (shut_int Tryd.underlying3 w0) (trodAll_cons_mk (Below.trod laidOut (by kernel_rfl) (of_decide_eq_true (by kernel_rfl)) k1 bel lt1) trodAll_mk0)), rfl, bel.frame _, fun h => by cases h⟩

theorem laid_met (os : Os) : laidMet Tryd.prog Rows.parseBackRow.laid ((laidWorld os).forCall (fun _ _ => 0) ⟨#[], #[.int .i64 0, .slice none 0 0], []⟩).memory :=
  laidMet_of_run' 100 (by kernel_rfl) (by kernel_rfl)
theorem reads (os : Os) {H : Type} (enc : TypeId × Value → H) : ∃ places, DataW.whole enc Tryd.prog ((laidWorld os).forCall (fun _ _ => 0) ⟨#[], #[.int .i64 0, .slice none 0 0], []⟩).memory Tryd.f3.params.toList Rows.parseBackSpec.vars false (#[.int .i64 0, .slice none 0 0] : Array Value).toList 8 = some ([.lit (.int .i64 0), .nil], [], places) :=
  ⟨[], by kernel_rfl⟩

set_option maxRecDepth 100000 in
theorem lifted (os : Os) (started : os.Started) (H : Type) (enc : TypeId × Value → H) (F : Stop.Interp) :
    ReturnsInHanded {} Tryd.checked os 3 .any ((OpenSpec.ofChange Rows.parseBackSpec).preRow enc Tryd.prog Tryd.f3 Rows.parseBackRow.domain false Rows.parseBackRow.laid) (((OpenSpec.ofChange Rows.parseBackSpec).at F).post enc Tryd.prog Tryd.f3 false true false false) := by
  obtain ⟨places, hx⟩ := reads os enc
  refine returnsInHanded_of_row (C := Tryd.checked) (s := (OpenSpec.ofChange Rows.parseBackSpec)) own started (by kernel_rfl) Tryd.func3
    (witness_row_at (enc := enc) (C := Tryd.checked) false (laidWorld os) #[.int .i64 0, .slice none 0 0] rfl (by kernel_rfl) (by kernel_rfl) (by kernel_rfl)
      (OpenSpec.preRow_of_cond 8 hx (by kernel_rfl) (fun k hk => by cases hk) (by kernel_rfl) (laid_met os))) ?_
  intro W base args ds gs before hval hW _ hcond hsz hL _ _
  exact contract H enc W base args ds gs before hval hW hsz hL

theorem said : Rows.ParseBackSaid :=
  OpenClaim.holds_of_cond 3 Tryd.f3 rfl rfl rfl rfl rfl rfl rfl ⟨rfl, rfl, rfl, rfl, rfl⟩ rfl rfl rfl rfl rfl (by kernel_rfl) Tryd.func3 (by kernel_rfl)
    (of_decide_eq_true (by kernel_rfl)) (by unfold Func.isWrapper; first | (rw [if_pos (by decide +kernel)]; kernel_rfl) | (rw [if_neg (by decide +kernel)]; exact ⟨rfl, rfl⟩))
    (fun os started H enc _ F => by rw [OpenClaim.pre_eq_preRow]; exact lifted os started H enc F)

theorem plain (f : FuncId) (fn : Func) (hf : Tryd.pinned.checked.prog.funcNamed "tangram/tangramlaw02.ParseBack" = some f) (hfn : Tryd.pinned.checked.prog.funcs[f]? = some fn) :
    true = Tryd.pinned.checked.prog.looks [] ∧ ∀ (j : Nat) t, fn.params[j]? = some t → Tryd.pinned.checked.prog.wantsStandIn t = false := by
  obtain rfl : f = 3 := Option.some.inj ((show Tryd.prog.funcNamed "tangram/tangramlaw02.ParseBack" = some 3 by kernel_rfl).symm.trans hf) |>.symm
  obtain rfl : fn = Tryd.f3 := (Option.some.inj (Tryd.func3.symm.trans hfn)).symm
  refine ⟨by kernel_rfl, fun j t ht => ?_⟩
  rw [Tryd.params3] at ht
  obtain hx : t = 3 ∨ t = 22 := by simpa using Array.mem_of_getElem? ht
  rcases hx with rfl | rfl
  · exact (show Tryd.prog.wantsStandIn 3 = false by kernel_rfl)
  · exact (show Tryd.prog.wantsStandIn 22 = false by kernel_rfl)

theorem card : Rows.ParseBackCardSaid :=
  Claim7.holds_tied_plain_at .later [] _ _ _ _ said (fun _ h => by cases h) (by kernel_rfl) (fun _ h => by cases h) parseBack_row_tie rfl ⟨rfl, rfl⟩ (by kernel_rfl) rfl plain (by kernel_rfl)


end lawPBack

theorem parseBack_holds : Rows.ParseBackCardSaid := lawPBack.card

#print axioms parseBack_holds
end Go.Proofs.YtkjmnfhpikoaaaaDoor
