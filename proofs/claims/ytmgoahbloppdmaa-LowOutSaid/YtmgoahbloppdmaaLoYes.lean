/-
  The law LowOut, of a valid graph.
-/
import Derived.Test.YtmgoahbloppdmaaMg31
import Derived.Test.YtmgoahbloppdmaaLoRch
import Derived.Deep.CutRange
namespace Go.Proofs.Ytmgoahbloppdmaa
open Go.ChangeShapes Go.WideShapes Go.ChangeAt Go.RowKit
namespace lawLOut

/-- Whose edges have been met: those of the vertices below v, and of v the first i of its list. -/
def Met (es : List (Int × Int)) (s : Df.St) (M : List Bool) (v : Nat) (T : List Int) : Prop :=
  M.length = es.length ∧ ∀ b, b < es.length → (M.getD b false = true ↔ Lo.fr es s b < v ∨ (Lo.fr es s b = v ∧ Df.at_ s.ori b ∈ T))

theorem Met.start (es : List (Int × Int)) (s : Df.St) : Met es s (List.replicate es.length false) 0 [] := by
  refine ⟨by simp, fun b hb => ?_⟩
  simp [List.getD_eq_getElem?_getD, hb]
theorem Met.next {n : Nat} {es : List (Int × Int)} {s : Df.St} {M : List Bool} {v : Nat} {L : List Int} (hv : Si.Val n es) (hVF : Df.VF n es s) (hL : (Lo.outTo n es s es.length)[v]? = some L) (h : Met es s M v L) : Met es s M (v + 1) [] := by
  refine ⟨h.1, fun b hb => ?_⟩
  rw [h.2 b hb]
  have hm := Lo.outTo_mem hv hVF es.length (Nat.le_refl _) v L hL (Df.at_ s.ori b)
  constructor
  · rintro (h1 | ⟨h1, _⟩)
    · exact .inl (by omega)
    · exact .inl (by omega)
  · rintro (h1 | ⟨_, h1⟩)
    · by_cases e : Lo.fr es s b = v
      · exact .inr ⟨e, hm.2 ⟨b, hb, e, rfl⟩⟩
      · exact .inl (by omega)
    · cases h1
theorem Met.put {n : Nat} {es : List (Int × Int)} {s : Df.St} {M : List Bool} {v i b : Nat} {L : List Int} (hVF : Df.VF n es s) (h : Met es s M v (L.take i)) (hb : b < es.length) (hf : Lo.fr es s b = v) (hL : L[i]? = some (Df.at_ s.ori b)) : Met es s (M.set b true) v (L.take (i + 1)) := by
  refine ⟨by rw [List.length_set]; exact h.1, fun k hk => ?_⟩
  rw [Lo.seen_set (by rw [h.1]; exact hb), List.take_add_one, hL]
  by_cases e : k = b
  · rw [if_pos e, e]
    simp [hf]
  · rw [if_neg e, h.2 k hk]
    have hne : Df.at_ s.ori k ≠ Df.at_ s.ori b := fun he => by
      have h1 := (Lo.ori_half hVF hk).1
      have h2 := (Lo.ori_half hVF hb).1
      rw [he] at h1
      omega
    have hm : Df.at_ s.ori k ∈ L.take i ++ (some (Df.at_ s.ori b)).toList ↔ Df.at_ s.ori k ∈ L.take i := by
      rw [List.mem_append]
      exact ⟨fun h => h.elim id (fun h => absurd (List.mem_singleton.1 h) hne), .inl⟩
    rw [hm]
theorem Met.free {es : List (Int × Int)} {s : Df.St} {M : List Bool} {v i b : Nat} {L : List Int} (h : Met es s M v (L.take i)) (hn : L.Nodup) (hb : b < es.length) (hf : Lo.fr es s b = v) (hL : L[i]? = some (Df.at_ s.ori b)) : M.getD b false = false := by
  cases hc : M.getD b false
  · rfl
  · rcases (h.2 b hb).1 hc with h1 | ⟨_, h1⟩
    · omega
    · obtain ⟨j, hj⟩ := List.getElem?_of_mem h1
      rw [List.getElem?_take] at hj
      by_cases hji : j < i
      · rw [if_pos hji] at hj
        obtain ⟨h2, h3⟩ := List.getElem?_eq_some_iff.1 hj
        obtain ⟨h4, h5⟩ := List.getElem?_eq_some_iff.1 hL
        exact absurd (h3.trans h5.symm) (List.pairwise_iff_getElem.1 hn j i h2 h4 hji)
      · rw [if_neg hji] at hj
        cases hj
theorem Met.all {n : Nat} {es : List (Int × Int)} {s : Df.St} {M : List Bool} (hv : Si.Val n es) (hVF : Df.VF n es s) (h : Met es s M n []) {b : Nat} (hb : b < es.length) : M.getD b false = true :=
  (h.2 b hb).2 (.inl (Lo.ends_lt hv hVF hb).1)
/-- Neighbours in a list rise. -/
theorem rise {n : Nat} {es : List (Int × Int)} {s : Df.St} {j b b' : Nat} {L : List Int} (hVF : Df.VF n es s) (hp : List.Pairwise (Lo.Le8 es s) L) (h0 : L[j]? = some (Df.at_ s.ori b')) (h1 : L[j + 1]? = some (Df.at_ s.ori b)) (hb' : b' < es.length) (hb : b < es.length) : Lo.nest es s b' < Lo.nest es s b ∨ (Lo.nest es s b' = Lo.nest es s b ∧ Df.at_ s.ori b' < Df.at_ s.ori b) := by
  obtain ⟨l0, e0⟩ := List.getElem?_eq_some_iff.1 h0
  obtain ⟨l1, e1⟩ := List.getElem?_eq_some_iff.1 h1
  have h := List.pairwise_iff_getElem.1 hp j (j + 1) l0 l1 (by omega)
  rw [e0, e1] at h
  unfold Lo.Le8 at h
  rw [(Lo.ori_half hVF hb').1, (Lo.ori_half hVF hb).1] at h
  exact h

set_option maxRecDepth 100000 in
set_option maxHeartbeats 16000000 in
theorem yes (m : Nat) (ao : Option Addr) (ca : Nat) (es : List (Int × Int)) (w : World) (hat : EdgesAt w ao es) (hv : Si.Val m es) :
    Calls Try.prog 5 #[.agg #[.int .i64 (m : Int), .slice ao es.length ca]] w fun e w' => e = .returned (.bool true) ∧ Below w.heap.size w w' := by
  obtain ⟨W, hW⟩ : ∃ W, W = w.alloc (.cells #[.int .i64 (m : Int), .slice ao es.length ca] 24) := ⟨_, rfl⟩
  have hB0 : Below w.heap.size w W := by rw [hW]; exact (Below.refl _ _).alloc (Nat.le_refl _) _
  have g1 : W.heap[w.heap.size]? = some (.cells #[.int .i64 (m : Int), .slice ao es.length ca] 24 (0, 0)) := by rw [hW]; exact heap_alloc_new w _
  have lt1 := lt_of_block g1
  have hatW := hat.later hB0
  have hfew := hv.few
  have hhi := hv.hi
  have HBOX : Hid (∀ V, Below W.heap.size W V → V.cell? ⟨w.heap.size, 0, none⟩ = some (.int .i64 (m : Int)) ∧ V.cell? ⟨w.heap.size, 1, none⟩ = some (.slice ao es.length ca)) := fun V hV => by
    obtain ⟨x0, x1, -⟩ := pair_cells ((hV.block w.heap.size lt1).trans g1)
    exact ⟨x0, x1⟩
  have HFX := Nu.hid (fixed8_any W)
  have HWK : Hid (∀ V, Below W.heap.size W V → _) := fun V hV => walk_yes (ca := ca) hv (hatW.later hV) (by omega)
  have HAT : Hid (∀ V, Below W.heap.size W V → EdgesAt V ao es) := fun V hV => hatW.later hV
  have HV := Nu.hid hv
  have HWW := Nu.hid hW
  have HB0 := Nu.hid hB0
  clear hB0 g1 hW hat hatW hv
  go_enter Try.func5, Try.ntmps5
  go_wp2_with (go_at_call 6; rw [← HWW.out]; refine HFX.out.mono ?_; rintro e w1 ⟨rfl, hb1⟩; have HB1 := Nu.hid hb1; have hs1 := hb1.size; obtain ⟨x0, x1⟩ := HBOX.out _ hb1; clear hb1; refine Hid.out ?_)
  refine Nu.hid ?_
  go_wp2_with (go_at_call 7; refine (HWK.out _ HB1.out).mono ?_; rintro e w2 ⟨a1, a2, a3, a4, c1, c2, c3, c4, s, rfl, hF, hVF, hroom, hb2⟩; refine Hid.out ?_)
  refine Nu.hid ?_
  have hB2 : Below W.heap.size W w2 := HB1.out.trans (hb2.mono HB1.out.size)
  obtain ⟨w3, hw3⟩ : ∃ w3, w3 = w2.alloc (.cells #[.slice a1 m c1, .slice a2 m c2, .slice a3 m c3, .slice a4 es.length c4] 28) := ⟨_, rfl⟩
  have hb3 : Below w2.heap.size w2 w3 := by rw [hw3]; exact (Below.refl _ _).alloc (Nat.le_refl _) _
  have hs3 : w3.heap.size = w2.heap.size + 1 := by rw [hw3]; simp
  have hB3 : Below W.heap.size W w3 := hB2.trans (hb3.mono hB2.size)
  have hs2 := hB2.size
  have lb3 : w3.heap[w2.heap.size]? = some (.cells #[.slice a1 m c1, .slice a2 m c2, .slice a3 m c3, .slice a4 es.length c4] 28 (0, 0)) := by rw [hw3]; exact heap_alloc_new w2 _
  obtain ⟨y0, y1, y2, y3, -⟩ := four_cells lb3
  obtain ⟨x0, x1⟩ := HBOX.out _ hB3
  have HO3 := Nu.hid (of_yes (ca := ca) HV.out hVF (HAT.out w3 hB3) (hF.later hb3))
  have HB3 := Nu.hid hB3
  have HW3 := Nu.hid hw3
  have HF3 := Nu.hid (hF.later hb3)
  have HVF := Nu.hid hVF
  have HRM := Nu.hid hroom
  have HL3 := Nu.hid lb3
  rw [hw3] at x0 x1 y0 y1 y2 y3
  clear hb3 hb2 hB2 hB3 hF lb3 hw3 HWK hVF hroom
  go_wp2_with (go_at_call 8; rw [← HW3.out]; refine HO3.out.mono ?_; rintro e w4 ⟨b1, b2, b3, b4, d1, d2, d3, d4, vs, rfl, k1, k2, k3, k4, hb4⟩; refine Hid.out ?_)
  refine Nu.hid ?_
  obtain ⟨w5, hw5⟩ : ∃ w5, w5 = w4.alloc (.cells #[.slice b1 es.length d1, .slice b2 es.length d2, .slice b3 es.length d3, .slice b4 m d4] 34) := ⟨_, rfl⟩
  have hb5 : Below w4.heap.size w4 w5 := by rw [hw5]; exact (Below.refl _ _).alloc (Nat.le_refl _) _
  have hs5 : w5.heap.size = w4.heap.size + 1 := by rw [hw5]; simp
  have hs4 := hb4.size
  have lb5 : w5.heap[w4.heap.size]? = some (.cells #[.slice b1 es.length d1, .slice b2 es.length d2, .slice b3 es.length d3, .slice b4 m d4] 34 (0, 0)) := by rw [hw5]; exact heap_alloc_new w4 _
  have HH : Hid (∀ V, Below w5.heap.size w5 V → Held w W w2.heap.size w4.heap.size m ao ca es a1 a2 a3 a4 c1 c2 c3 c4 s b1 b2 b3 b4 d1 d2 d3 d4 V) := fun V hV => by
    have h45 := hb5.trans (hV.mono hb5.size)
    have h35 := hb4.trans (h45.mono hb4.size)
    have hW5 := HB3.out.trans (h35.mono HB3.out.size)
    obtain ⟨x0, x1⟩ := HBOX.out V hW5
    obtain ⟨y0, y1, y2, y3, -⟩ := four_cells ((h35.block _ (lt_of_block HL3.out)).trans HL3.out)
    obtain ⟨z0, z1, z2, z3, -⟩ := four_cells ((hV.block _ (lt_of_block lb5)).trans lb5)
    have := hV.size
    exact ⟨x0, x1, y0, y1, y2, y3, z0, z1, z2, z3, ⟨by omega, by omega, by omega⟩, HAT.out V hW5, HF3.out.later h35, k1.later h45, k2.later h45, k3.later h45, HB0.out.trans (hW5.mono HB0.out.size)⟩
  have HEN : Hid (∀ V (k : Nat), Below w5.heap.size w5 V → k < es.length → Calls Try.prog 9 #[.agg #[.int .i64 (m : Int), .slice ao es.length ca], .agg #[.slice a1 m c1, .slice a2 m c2, .slice a3 m c3, .slice a4 es.length c4], .int .i64 (k : Int)] V fun r w' => r = .returned (.tuple #[.int .i64 (Lo.fr es s k : Int), .int .i64 (Lo.go_ es s k : Int)]) ∧ Below V.heap.size V w') := fun V k hV hk => ends_yes k hk HV.out HVF.out (HH.out V hV).edges (HH.out V hV).lf
  have HR5 : Hid (∀ V, Below w5.heap.size w5 V → RowsZ V w3.heap.size (.slice b4 m d4) vs (Lo.outTo m es s es.length)) := fun V hV => k4.later (hb5.trans (hV.mono hb5.size))
  have HRE : Hid (∀ V, Below w5.heap.size w5 V → Calls Try.prog 12 #[.agg #[.int .i64 (m : Int), .slice ao es.length ca], .agg #[.slice a1 m c1, .slice a2 m c2, .slice a3 m c3, .slice a4 es.length c4], .agg #[.slice b1 es.length d1, .slice b2 es.length d2, .slice b3 es.length d3, .slice b4 m d4]] V fun r w' => r = .returned (.bool true) ∧ Below V.heap.size V w') := fun V hV => reached8_any (HH.out V hV).edges HV.out (HH.out V hV).lf HVF.out (HR5.out V hV)
  obtain ⟨x0, x1, y0, y1, y2, y3, z0, z1, z2, z3, -, -, -, -, -, -, -⟩ := HH.out w5 (Below.refl _ _)
  have HW5 := Nu.hid hw5
  rw [hw5] at x0 x1 y0 y1 y2 y3 z0 z1 z2 z3
  have j1 : ((m : Int) != (m : Int)) = false := by simp
  obtain ⟨i0, hi, hz0, hz1, hz2⟩ := info_parts Try.infoBool8
  have hmk : ∀ W, (Instr.makeSlice 43 (.int .i64 (es.length : Int)) (.int .i64 (es.length : Int))).run Try.prog W = .ok (.slice (some ⟨W.heap.size, 0, none⟩) es.length es.length) (W.alloc (.cells (madeCells #[.bool false] es.length) 4)) := fun W => by
    have := run_make (P := Try.prog) W 43 4 i0 (.bool false) Try.underlying43 hi hz0 .i64 .i64 (es.length : Int) (es.length : Int) (by omega) (Int.le_refl _) (by rw [hz2]; omega) (by omega)
    rw [this, hz1]
    simp [Value.cells]
  have hs5' : w4.heap.size + 1 ≤ w5.heap.size := by omega
  have hs3' : w2.heap.size + 1 ≤ w3.heap.size := by omega
  clear hb4 hb5 lb5 hw5 k1 k2 k3 k4 HB3 HW3 HF3 HL3 HO3 HBOX HAT hi hz0 hz1 hz2 hs5 hs3
  go_upto_region 9 with fail
  rw [← HW5.out]
  obtain ⟨x0, x1, y0, y1, y2, y3, z0, z1, z2, z3, -, -, -, -, -, -, -⟩ := HH.out w5 (Below.refl _ _)
  obtain ⟨A, hA⟩ : ∃ A, A = w5.alloc (.cells (madeCells #[.bool false] es.length) 4) := ⟨_, rfl⟩
  have HMA : Hid (BoolsBlk A w5.heap.size (List.replicate es.length false)) := by rw [hA]; exact Nu.hid (made_bools8 rfl)
  have HbA : Hid (Below w5.heap.size w5 A) := by rw [hA]; exact Nu.hid ((Below.refl _ _).alloc (Nat.le_refl _) _)
  have hAs : w5.heap.size < A.heap.size := by rw [hA]; simp
  have HWA := Nu.hid hA
  have HK : Hid (∀ V, Wrote (fun b => b = w5.heap.size) A V → Below w5.heap.size w5 V) := fun V hV => HbA.out.trans (hV.below (by omega) (fun k hk => by omega))
  obtain ⟨x0', x1', y0', y1', y2', y3', z0', z1', z2', z3', -, -, -, -, -, -, -⟩ := HH.out A HbA.out
  rw [hA] at x0' x1' y0' y1' y2' y3' z0' z1' z2' z3'
  clear hA j1
  go_wp2
  rw [← HWA.out]
  clear x0 x1 y0 y1 y2 y3 z0 z1 z2 z3 x0' x1' y0' y1' y2' y3' z0' z1' z2' z3' hmk HWA
  go_loopw [53] (fun cv wr => ∃ (v : Nat) (M : List Bool), v ≤ m ∧ cv = .int .i64 (v : Int) ∧ Met es s M v [] ∧ BoolsBlk wr w5.heap.size M ∧ Wrote (fun b => b = w5.heap.size) A wr) (fun cv _ => m - (intOf cv).toNat)
  case atStart => exact ⟨0, _, Nat.zero_le _, rfl, Met.start es s, HMA.out, Wrote.refl _ _⟩
  case round =>
    obtain ⟨v, M, hvm, rfl, hM, hblk, hwr⟩ := hrel
    have HM := Nu.hid hM
    have HBLK := Nu.hid hblk
    have HWR := Nu.hid hwr
    by_cases hlt : v < m
    · have hlti : (v : Int) < (m : Int) := by omega
      have hv0 : (0 : Int) ≤ (v : Int) := by omega
      have hrows := HR5.out wr (HK.out wr hwr)
      obtain ⟨L, hL⟩ : ∃ L, (Lo.outTo m es s es.length)[v]? = some L := ⟨_, List.getElem?_eq_getElem (by rw [Lo.outTo_len]; exact hlt)⟩
      have HLv := Nu.hid hL
      have HND : Hid L.Nodup := Lo.outTo_nodup HV.out HVF.out es.length (Nat.le_refl _) L (List.mem_of_getElem? hL)
      have HPW : Hid (List.Pairwise (Lo.Le8 es s) L) := Lo.outTo_rises HV.out HVF.out es.length (Nat.le_refl _) L (List.mem_of_getElem? hL)
      have hNl : L.length ≤ 4194304 := by
        have := (Lo.outTo_half HV.out HVF.out es.length (Nat.le_refl _) L (List.mem_of_getElem? hL)).2
        omega
      obtain ⟨xv, hxv⟩ := hrows.at' hL
      obtain ⟨xo, xc, hxe, hxa, -⟩ := (hrows.row v xv L hxv hL).form
      subst hxe
      have HXV := Nu.hid hxv
      obtain ⟨gb, gc, e4⟩ := row_form hrows (by rw [Lo.outTo_len]; omega)
      rw [Lo.outTo_len] at e4
      cases e4
      have cx := World.ownsRow.cells hrows.outer (g := gb) rfl v _ hxv
      have ea : ((⟨gb, 0, none⟩ : Addr).add v) = ⟨gb, v, none⟩ := by by_cases h0 : v = 0 <;> simp [Addr.add, h0]
      rw [ea] at cx
      obtain ⟨N, hN⟩ : ∃ N, L.length = N := ⟨_, rfl⟩
      rw [hN] at cx HXV hNl
      have HN := Nu.hid hN
      have HLT := Nu.hid hlt
      have HM0 : Hid (Met es s M v (L.take 0)) := by rw [List.take_zero]; exact Nu.hid hM
      have cbl := block_lt_of_cell cx
      clear hM hblk hwr hrows hN hL hxv hxa hlt hvm
      go_wp2
      go_loopw [60] (fun cv wt => ∃ (i : Nat) (M : List Bool), i ≤ N ∧ cv = .int .i64 (i : Int) ∧ Met es s M v (L.take i) ∧ BoolsBlk wt w5.heap.size M ∧ Wrote (fun b => b = w5.heap.size) A wt) (fun cv _ => N - (intOf cv).toNat)
      case atStart => exact ⟨0, M, Nat.zero_le _, rfl, HM0.out, HBLK.out, HWR.out⟩
      case round =>
        clear HM HBLK HWR HM0
        obtain ⟨i, M, hi, rfl, hM, hblk, hwr⟩ := hrel
        have HM := Nu.hid hM
        have HBLK := Nu.hid hblk
        have HWR := Nu.hid hwr
        have hB := HK.out wr hwr
        have HB := Nu.hid hB
        by_cases hlt : i < N
        · have hlti : (i : Int) < (N : Int) := by omega
          have hi0 : (0 : Int) ≤ (i : Int) := by omega
          obtain ⟨hx, hLi⟩ : ∃ hx, L[i]? = some hx := ⟨_, List.getElem?_eq_getElem (by rw [HN.out]; exact hlt)⟩
          obtain ⟨b, hb, hfb, rfl⟩ := (Lo.outTo_mem HV.out HVF.out es.length (Nat.le_refl _) v L HLv.out hx).1 (List.mem_of_getElem? hLi)
          have hrows := HR5.out wr hB
          obtain ⟨xo', xc', hxe, hxa, -⟩ := (hrows.row v _ L HXV.out HLv.out).form
          have hxo : xo = xo' := (Value.slice.inj hxe).1
          subst hxo
          clear hxe
          obtain ⟨gl, ol, rfl, cl⟩ := hxa i _ hLi
          have hheld := HH.out wr hB
          obtain ⟨hq1, hq2, hq3, hq4⟩ := Lo.oh_of HVF.out hb
          obtain ⟨lens1, lens2, lens3, lens4⟩ := HVF.out.lens
          obtain ⟨gr, or, er, cr⟩ := lst_at hheld.lf.l4 (i := b) (by omega)
          obtain ⟨g3, o3, e3, c3'⟩ := up_at hheld.l3 hb
          dsimp only at er
          subst er e3
          have cr' : wr.cell? ⟨gr, or + b, none⟩ = some (.int .i64 (Df.at_ s.ori b)) := cr
          rw [hq1] at cl cr'
          have hfree := hM.free HND.out hb hfb hLi
          have hmc := hblk.cell (i := b) (x := false) (by
            rw [List.getD_eq_getElem?_getD, List.getElem?_eq_getElem (by rw [hM.1]; exact hb)] at hfree
            rw [List.getElem?_eq_getElem (by rw [hM.1]; exact hb)]
            exact congrArg some hfree)
          have hmf := hblk.free b
          have HMN : Hid (Met es s (M.set b true) v (L.take (i + 1))) := hM.put HVF.out hb hfb hLi
          -- the list's cells, and the nests, in every later world
          have HLC : Hid (∀ V, Below w5.heap.size w5 V → ∀ (j e : Nat), L[j]? = some (Df.at_ s.ori e) → e < es.length → V.cell? ⟨gl, ol + j, none⟩ = some (.int .i64 (Lo.oh s e : Int)) ∧ V.cell? ⟨g3, o3 + e, none⟩ = some (.int .i64 (Lo.nest es s e))) := fun V hV j e hj he => by
            obtain ⟨xo2, xc2, hxe2, hxa2, -⟩ := ((HR5.out V hV).row v _ L HXV.out HLv.out).form
            cases hxe2
            obtain ⟨gl2, ol2, e5, cl2⟩ := hxa2 j _ hj
            cases e5
            rw [(Lo.oh_of HVF.out he).1] at cl2
            obtain ⟨g4, o4, e6, c4'⟩ := up_at (HH.out V hV).l3 he
            cases e6
            exact ⟨cl2, c4'⟩
          obtain ⟨w1, hw1⟩ : ∃ w1, w1 = wr.setCell ⟨w5.heap.size, b, none⟩ (.bool true) := ⟨_, rfl⟩
          have HBLK1 : Hid (BoolsBlk w1 w5.heap.size (M.set b true)) := by rw [hw1]; exact Nu.hid (hblk.set b true)
          have hwr1 : Wrote (fun b => b = w5.heap.size) A w1 := by rw [hw1]; exact hwr.setCell rfl _
          have HWR1 := Nu.hid hwr1
          have hB1 := HK.out w1 hwr1
          have HB1 := Nu.hid hB1
          have HW1 := Nu.hid hw1
          have HEB := Nu.hid (HEN.out w1 b hB1 hb)
          have HLI := Nu.hid hLi
          have HBL := Nu.hid hb
          have HLT := Nu.hid hlt
          obtain ⟨x0, x1, y0, y1, y2, y3, z0, z1, z2, z3, hbl, -, -, -, -, -, -⟩ := hheld
          have hcl := block_lt_of_cell cl
          have hc3 := block_lt_of_cell c3'
          have hcr := block_lt_of_cell cr'
          have hgl := hblk.lt
          obtain ⟨q, hq⟩ : ∃ q, Lo.oh s b = q := ⟨_, rfl⟩
          obtain ⟨tt, htt⟩ : ∃ tt, Lo.go_ es s b = tt := ⟨_, rfl⟩
          rw [hq] at cl cr' hq2 hq3 hq4
          rw [hfb, htt] at HEB
          have HQ := Nu.hid hq
          have d1 : ((q : Int)).tdiv 2 = (b : Int) := by rw [Int.tdiv_eq_ediv_of_nonneg (by omega)]; omega
          have d2 : (q : Int) / 2 = (b : Int) := by omega
          have f1 : ¬ (q : Int) < 0 := by omega
          have f2 : ¬ (2 * (es.length : Int) ≤ (q : Int)) := by omega
          have f3 : ((q : Int) != (q : Int)) = false := by simp
          have f4 : (0 : Int) ≤ (b : Int) := by omega
          have f5 : (b : Int) < (es.length : Int) := by omega
          have f6 : ((v : Int) != (v : Int)) = false := by simp
          have hbl2 : b ≤ 17592186044000 := by omega
          have hql : q ≤ 17592186044000 := by omega
          have hil : i ≤ 17592186044000 := by omega
          clear hM hblk hwr hB hrows hxa cr c3' hfree hw1 hwr1 hB1 hLi hb hlt hi hq1 hq2 hq3 hq htt lens1 lens2 lens3 lens4
          go_upto_region 19 with fail
          rw [← HW1.out]
          clear x0 x1 y0 y1 y2 y3 z0 z1 z2 z3 cl cr' hmc hmf
          obtain ⟨x0, x1, y0, y1, y2, y3, z0, z1, z2, z3, hbl1, -, -, -, -, -, -⟩ := HH.out w1 HB1.out
          go_wp2_with (go_at_call 9; refine HEB.out.mono ?_; rintro e w8 ⟨rfl, hb8⟩; refine Hid.out ?_)
          refine Nu.hid ?_
          have hB8 : Below w5.heap.size w5 w8 := HB1.out.trans (hb8.mono HB1.out.size)
          have HBLK8 : Hid (BoolsBlk w8 w5.heap.size (M.set b true)) := HBLK1.out.later hb8
          have HWR8 : Hid (Wrote (fun b => b = w5.heap.size) A w8) := HWR1.out.later hb8
          have HB8 := Nu.hid hB8
          obtain ⟨cl, cn⟩ := HLC.out w8 hB8 i b HLI.out HBL.out
          rw [HQ.out] at cl
          have hs8 := hb8.size
          clear x0 x1 y0 y1 y2 y3 z0 z1 z2 z3
          obtain ⟨x0, x1, y0, y1, y2, y3, z0, z1, z2, z3, hbl8, -, -, -, -, -, -⟩ := HH.out w8 hB8
          clear hb8 hB8
          go_upto_region 22 with fail
          by_cases h0 : i = 0
          · have t1 : decide ((0 : Int) < (i : Int)) = false := by simp; omega
            have t1' : decide (0 < i) = false := by simp; omega
            clear h0
            go_quiet (fail)
            go_wp2
            go_roundw
            case rel => exact ⟨i + 1, _, HLT.out, by go_num, HMN.out, HBLK8.out, HWR8.out.drewN _⟩
            case measure => have := HLT.out; simp [intOf]; omega
          · obtain ⟨j, hj⟩ : ∃ j, i = j + 1 := ⟨i - 1, by omega⟩
            have t1 : decide ((0 : Int) < (i : Int)) = true := by simp; omega
            have t1' : decide (0 < i) = true := by simp; omega
            obtain ⟨hx', hLj⟩ : ∃ hx', L[j]? = some hx' := ⟨_, List.getElem?_eq_getElem (by rw [HN.out]; have := HLT.out; omega)⟩
            obtain ⟨b', hb', hfb', rfl⟩ := (Lo.outTo_mem HV.out HVF.out es.length (Nat.le_refl _) v L HLv.out hx').1 (List.mem_of_getElem? hLj)
            have hrise := rise HVF.out HPW.out hLj (by have := HLI.out; rw [hj] at this; exact this) hb' HBL.out
            obtain ⟨cl', cn'⟩ := HLC.out w8 HB8.out j b' hLj hb'
            obtain ⟨hp1, hp2, hp3, hp4⟩ := Lo.oh_of HVF.out hb'
            rw [hp1, (Lo.oh_of HVF.out HBL.out).1, HQ.out] at hrise
            obtain ⟨q', hq'⟩ : ∃ q', Lo.oh s b' = q' := ⟨_, rfl⟩
            rw [hq'] at cl' hp2 hp3 hp4 hrise
            obtain ⟨nb, hnb⟩ : ∃ x, Lo.nest es s b = x := ⟨_, rfl⟩
            obtain ⟨nc, hnc⟩ : ∃ x, Lo.nest es s b' = x := ⟨_, rfl⟩
            rw [hnb] at cn hrise
            rw [hnc] at cn' hrise
            have e0 : (i : Int) - 1 = (j : Int) := by omega
            have e1 : (0 : Int) ≤ (j : Int) := by omega
            have e2 : (j : Int) < (N : Int) := by have := HLT.out; omega
            have e3 : ((q' : Int)).tdiv 2 = (b' : Int) := by rw [Int.tdiv_eq_ediv_of_nonneg (by omega)]; omega
            have e4 : (q' : Int) / 2 = (b' : Int) := by omega
            have e5 : (0 : Int) ≤ (b' : Int) := by omega
            have e6 : (b' : Int) < (es.length : Int) := by omega
            have e7 : IntKind.i64.wrap (j : Int) = (j : Int) := wrap_mid (by omega) (by omega)
            have e8 : IntKind.i64.wrap (b : Int) = (b : Int) := wrap_mid (by omega) (by omega)
            have e9 : IntKind.i64.wrap (b' : Int) = (b' : Int) := wrap_mid (by omega) (by omega)
            have HRISE := Nu.hid hrise
            clear h0 hj hLj hb' hfb' hp1 hp2 hp3 hp4 hq' hnb hnc hrise
            rcases HRISE.out with hr | ⟨hr, hr2⟩
            · have t2 : decide (nb < nc) = false := decide_eq_false (by omega)
              have t3 : (nc == nb) = false := beq_eq_false_iff_ne.2 (by omega)
              clear hr
              go_quiet (fail)
              clear e7 e8 e9
              go_wp2
              go_roundw
              case rel => exact ⟨i + 1, _, HLT.out, by go_num, HMN.out, HBLK8.out, HWR8.out.drewN _⟩
              case measure => have := HLT.out; simp [intOf]; omega
            · have t2 : decide (nb < nc) = false := decide_eq_false (by omega)
              have t3 : (nc == nb) = true := beq_iff_eq.2 hr
              have t4 : decide ((q : Int) ≤ (q' : Int)) = false := decide_eq_false (by omega)
              have t4' : decide (q ≤ q') = false := decide_eq_false (by omega)
              clear hr hr2
              go_quiet (fail)
              clear e7 e8 e9
              go_wp2
              go_roundw
              case rel => exact ⟨i + 1, _, HLT.out, by go_num, HMN.out, HBLK8.out, HWR8.out.drewN _⟩
              case measure => have := HLT.out; simp [intOf]; omega
        · obtain rfl : i = N := by omega
          have hd : ¬ (i : Int) < (i : Int) := by omega
          have HM1 : Hid (Met es s M (v + 1) []) := Met.next HV.out HVF.out HLv.out (by rw [← HN.out, List.take_length] at hM; exact hM)
          clear hM hblk hwr hB hlt hi
          go_wp2
          go_roundw
          case rel => exact ⟨v + 1, M, HLT.out, by go_num, HM1.out, HBLK.out, HWR.out⟩
          case measure => have := HLT.out; simp [intOf]; omega
    · obtain rfl : v = m := by omega
      have hd : ¬ (v : Int) < (v : Int) := by omega
      clear hM hblk hwr hlt hvm
      go_wp2
      go_loopw [160] (fun cv wt => ∃ i : Nat, i ≤ es.length ∧ cv = .int .i64 (i : Int) ∧ wt = wr) (fun cv _ => es.length - (intOf cv).toNat)
      case atStart => exact ⟨0, Nat.zero_le _, rfl, rfl⟩
      case round =>
        obtain ⟨i, hi, rfl, hwe⟩ := hrel
        subst hwe
        by_cases hlt : i < es.length
        · have hlti : (i : Int) < (es.length : Int) := by omega
          have hi0 : (0 : Int) ≤ (i : Int) := by omega
          have hc := HBLK.out.cell (i := i) (x := true) (by
            have h1 := Met.all HV.out HVF.out HM.out hlt
            rw [List.getD_eq_getElem?_getD, List.getElem?_eq_getElem (by rw [HM.out.1]; exact hlt)] at h1
            rw [List.getElem?_eq_getElem (by rw [HM.out.1]; exact hlt)]
            exact congrArg some h1)
          have hgl := HBLK.out.lt
          have HLT := Nu.hid hlt
          clear hlt hi
          go_wp2
          go_roundw
          case rel => exact ⟨i + 1, HLT.out, by go_num, by first | rfl | trivial⟩
          case measure => have := HLT.out; simp [intOf]; omega
        · have hd' : ¬ (i : Int) < (es.length : Int) := by omega
          have hB := HK.out _ HWR.out
          obtain ⟨x0, x1, y0, y1, y2, y3, z0, z1, z2, z3, hbl, -, -, -, -, -, -⟩ := HH.out _ hB
          have HRE1 := Nu.hid (HRE.out _ hB)
          have HBF := Nu.hid (HH.out _ hB).bel
          clear hB hlt hi
          go_wp2_with (go_at_call 12; refine HRE1.out.mono ?_; rintro e w9 ⟨rfl, hb9⟩; have HB9 := Nu.hid hb9; clear hb9)
          go_ret
          exact ⟨rfl, HBF.out.trans (HB9.out.mono HBF.out.size)⟩

end lawLOut
end Go.Proofs.Ytmgoahbloppdmaa
