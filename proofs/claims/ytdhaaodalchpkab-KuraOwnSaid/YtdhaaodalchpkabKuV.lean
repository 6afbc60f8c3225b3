/-
  The document's Recognise of layer 15.
-/
import Derived.Test.YtdhaaodalchpkabKuU
import Derived.Deep.Cut
namespace Go.Proofs.Ytdhaaodalchpkab
open Go.RowKit Go.Sort

set_option maxRecDepth 100000 in
set_option maxHeartbeats 8000000 in
theorem krecognise_any (n : Int) (ao : Option Addr) (cap : Nat) (es : List (Int × Int)) (w : World) (he : EdgesAt w ao es) (hl : es.length ≤ 4611686018427387904) :
    Calls Try.prog 10 #[.agg #[.int .i64 n, .slice ao es.length cap]] w (Ku.RecP n es w) := by
  obtain ⟨W1, hW1⟩ : ∃ W1, W1 = w.alloc (.cells #[.int .i64 n, .slice ao es.length cap] 24) := ⟨_, rfl⟩
  obtain ⟨W, hW⟩ : ∃ W, W = W1.alloc (.cells #[.int .i64 0, .slice none 0 0, .slice none 0 0] 36) := ⟨_, rfl⟩
  have hsz : W1.heap.size = w.heap.size + 1 := by rw [hW1]; simp
  have g1 : W1.heap[w.heap.size]? = some (.cells #[.int .i64 n, .slice ao es.length cap] 24 (0, 0)) := by rw [hW1]; exact heap_alloc_new w _
  have hB1 : Below w.heap.size w W1 := by rw [hW1]; exact (Below.refl _ _).alloc (Nat.le_refl _) _
  have hB2 : Below W1.heap.size W1 W := by rw [hW]; exact (Below.refl _ _).alloc (Nat.le_refl _) _
  have hB0 : Below w.heap.size w W := hB1.trans (hB2.mono hB1.size)
  have G1 := Nu.hid (blk_later15 g1 hB2)
  have g2 : W.heap[w.heap.size + 1]? = some (.cells #[.int .i64 0, .slice none 0 0, .slice none 0 0] 36 (0, 0)) := by rw [hW, ← hsz]; exact heap_alloc_new W1 _
  have G2 := Nu.hid g2
  have hW' : W = (w.alloc (.cells #[.int .i64 n, .slice ao es.length cap] 24)).alloc (.cells #[.int .i64 0, .slice none 0 0, .slice none 0 0] 36) := by rw [hW, hW1]
  have HW := Nu.hid hW'
  have HE := Nu.hid (he.later hB0)
  have HDG := Nu.hid (rdegrees_any n ao cap es W (he.later hB0) hl)
  have HB0 := Nu.hid hB0
  obtain ⟨q0, q1, -⟩ := pair_cells G1.out
  rw [hW'] at q0 q1
  clear hW1 hW hW' hsz g1 g2 hB1 hB2 hB0 he
  go_enter Try.func10, Try.ntmps10
  go_wp2_with (go_at_call 23; rw [← HW.out]; refine HDG.out.mono ?_; refine Hid.out ?_)
  refine Nu.hid ?_
  rintro e w1 ⟨hcase, hb1⟩
  have HBW1 := Nu.hid (HB0.out.trans (hb1.mono HB0.out.size))
  have G11 := Nu.hid (blk_later15 G1.out hb1)
  have G21 := Nu.hid (blk_later15 G2.out hb1)
  obtain ⟨z0, z1, z2, zf⟩ := cells3_15 G21.out
  clear q0 q1
  obtain ⟨q0, q1, -⟩ := pair_cells G11.out
  rcases hcase with ⟨hv, gd, m, rfl, rfl, hgd, hdi⟩ | ⟨hv, rfl⟩
  · have hval : Si.Val (m : Int) es := Si.valid_iff.1 hv
    have hfew := hval.few
    have HDI := Nu.hid hdi.at
    have HDL : Hid ((Si.degs (m : Int) es).length = m) := by
      refine Nu.hid ?_
      simp [Si.degs_length]
    have HV := Nu.hid hval
    have HCS := Nu.hid (kchains_any (m : Int) ao cap es w1 (HE.out.later hb1) hl)
    have hs1 := HBW1.out.size
    have hm : m ≤ 17592186044000 := by have := hval.hi; omega
    clear hv hdi hb1 hval HDG z0 z1 z2 zf
    go_wp2_with (go_at_call 9; refine HCS.out.mono ?_; refine Hid.out ?_)
    refine Nu.hid ?_
    rintro e w2 ⟨hcase, hb2⟩
    rcases hcase with ⟨hbad, -⟩ | ⟨hv', vc, us, rfl, hrz⟩
    · have := Si.valid_iff.2 HV.out
      rw [this] at hbad
      cases hbad
    · obtain ⟨J, hJ⟩ : ∃ J, (Ku.rows es hv' es.length).length = J := ⟨_, rfl⟩
      have HJ := Nu.hid hJ
      have HRZ := Nu.hid hrz
      obtain ⟨va, vcc, hve⟩ := row_shape hrz
      rw [hJ] at hve
      subst hve
      have HD2 := Nu.hid (HDI.out.later hb2)
      have G12 := Nu.hid (blk_later15 G11.out hb2)
      have G22 := Nu.hid (blk_later15 G21.out hb2)
      have HBW2 := Nu.hid (HBW1.out.trans (hb2.mono HBW1.out.size))
      have HS12 : Hid (w1.heap.size ≤ w2.heap.size) := Nu.hid hb2.size
      have HC2 := Nu.hid (kof_any (some ⟨gd, 0, none⟩) m m (Si.degs (m : Int) es) 2 w2 HDL.out HD2.out hm)
      clear hrz hb2 hJ q0 q1 HCS
      go_wp2_with (go_at_call 26; refine HC2.out.mono ?_; refine Hid.out ?_)
      refine Nu.hid ?_
      rintro e w3 ⟨v2, rfl, ho2, hb3⟩
      obtain ⟨a2, c2, hv2, -, -⟩ := ho2.form
      obtain ⟨N2, hN2⟩ : ∃ N2, (Ku.ofL (Si.degs (m : Int) es) 2 m).length = N2 := ⟨_, rfl⟩
      have hN2m : N2 ≤ m := by rw [← hN2]; exact Ku.ofL_length _ _ _
      rw [hN2] at hv2
      subst hv2
      have HN2 := Nu.hid hN2
      have HRZ3 := Nu.hid (HRZ.out.later hb3)
      have HD3 := Nu.hid (HD2.out.later hb3)
      have G13 := Nu.hid (blk_later15 G12.out hb3)
      have G23 := Nu.hid (blk_later15 G22.out hb3)
      have HBW3 := Nu.hid (HBW2.out.trans (hb3.mono HBW2.out.size))
      have HS13 : Hid (w1.heap.size ≤ w3.heap.size) := Nu.hid (Nat.le_trans HS12.out hb3.size)
      have HC0 : Hid (∀ V, Below w3.heap.size w3 V → Calls Try.prog 26 #[.slice (some ⟨gd, 0, none⟩) m m, .int .i64 0] V fun e w' => ∃ v, e = .returned v ∧ OwnZ w' V.heap.size v (Ku.ofL (Si.degs (m : Int) es) 0 m) ∧ Below V.heap.size V w') := fun V hV => kof_any (some ⟨gd, 0, none⟩) m m (Si.degs (m : Int) es) 0 V HDL.out (HD3.out.later hV) hm
      obtain ⟨N0, hN0⟩ : ∃ N0, (Ku.ofL (Si.degs (m : Int) es) 0 m).length = N0 := ⟨_, rfl⟩
      have hN0m : N0 ≤ m := by rw [← hN0]; exact Ku.ofL_length _ _ _
      have HN0 := Nu.hid hN0
      obtain ⟨q0, -, -⟩ := pair_cells G13.out
      have hS : ∀ V, Below w3.heap.size w3 V → (V.cell? ⟨w.heap.size, 0, none⟩ = some (.int .i64 (m : Int)) ∧ Below w3.heap.size w3 V) := fun V hV => ⟨(hV.cell (p := ⟨w.heap.size, 0, none⟩) (block_lt_of_cell q0)).trans q0, hV⟩
      have HS := Nu.hid hS
      have hbr : Below w3.heap.size w3 w3.drew := (Below.refl _ _).drew
      have hw1' : IntKind.i64.wrap ((m : Int) - (N0 : Int)) = (m : Int) - (N0 : Int) := by rw [IntKind.wrap_i64]; omega
      have hw2' : IntKind.i64.wrap ((m : Int) - (N0 : Int) - (N2 : Int)) = (m : Int) - (N0 : Int) - (N2 : Int) := by rw [IntKind.wrap_i64]; omega
      clear ho2 hb3 hN2 hN0 hS HC2
      go_wp2_with fail
      go_region_held3 (fun V => V.cell? ⟨w.heap.size, 0, none⟩ = some (.int .i64 (m : Int)) ∧ Below w3.heap.size w3 V)
        (exact HS.out _ (by first | assumption | exact hbr))
        ((go_at_call 26; refine (HC0.out _ (by first | assumption | exact hbr)).mono ?_; rintro e w6 ⟨v0, rfl, ho0, hbs⟩; have hbz : Below w3.heap.size w3 w6 := Below.trans (by first | assumption | exact hbr) (hbs.mono (Below.size (by first | assumption | exact hbr))); obtain ⟨a0, c0, hv0, -, -⟩ := ho0.form; rw [HN0.out] at hv0; subst hv0))
      have HRZ6 := Nu.hid (HRZ3.out.later hbz)
      have G26 := Nu.hid (blk_later15 G23.out hbz)
      have HBW6 := Nu.hid (HBW3.out.trans (hbz.mono HBW3.out.size))
      have HS16 : Hid (w1.heap.size ≤ w6.heap.size) := Nu.hid (Nat.le_trans HS13.out hbz.size)
      have HD6 := Nu.hid (HD3.out.later hbz)
      have HC4 := Nu.hid (kof_any (some ⟨gd, 0, none⟩) m m (Si.degs (m : Int) es) 4 w6 HDL.out HD6.out hm)
      clear hbz hbs hbr ho0 HS HC0 q0
      go_wp2_with (go_at_call 26; refine HC4.out.mono ?_; refine Hid.out ?_)
      refine Nu.hid ?_
      rintro e w7 ⟨v4, rfl, ho4, hb7⟩
      obtain ⟨a4, c4, hv4, hi4, hb4a⟩ := ho4.form
      have HB4A := Nu.hid hb4a
      clear hb4a
      obtain ⟨N4, hN4⟩ : ∃ N4, (Ku.ofL (Si.degs (m : Int) es) 4 m).length = N4 := ⟨_, rfl⟩
      rw [hN4] at hv4
      subst hv4
      have HN4 := Nu.hid hN4
      have HI4 := Nu.hid hi4
      have HRZ7 := Nu.hid (HRZ6.out.later hb7)
      have G27 := Nu.hid (blk_later15 G26.out hb7)
      have HBW7 := Nu.hid (HBW6.out.trans (hb7.mono HBW6.out.size))
      have HS67 : Hid (w6.heap.size ≤ w7.heap.size) := Nu.hid hb7.size
      have HC3 := Nu.hid (kof_any (some ⟨gd, 0, none⟩) m m (Si.degs (m : Int) es) 3 w7 HDL.out (HD6.out.later hb7) hm)
      clear ho4 hb7 hN4 hi4 HC4
      go_wp2_with (go_at_call 26; refine HC3.out.mono ?_; refine Hid.out ?_)
      refine Nu.hid ?_
      rintro e w8 ⟨v3, rfl, ho3, hb8⟩
      obtain ⟨a3, c3, hv3, hi3, hb3a⟩ := ho3.form
      have HB3A := Nu.hid hb3a
      have HS78 : Hid (w6.heap.size ≤ w7.heap.size ∧ w7.heap.size ≤ w8.heap.size) := ⟨HS67.out, hb8.size⟩
      clear hb3a
      obtain ⟨N3, hN3⟩ : ∃ N3, (Ku.ofL (Si.degs (m : Int) es) 3 m).length = N3 := ⟨_, rfl⟩
      rw [hN3] at hv3
      subst hv3
      have HN3 := Nu.hid hN3
      have HI3 := Nu.hid hi3
      have HI48 := Nu.hid (HI4.out.later hb8)
      have HRZ8 := Nu.hid (HRZ7.out.later hb8)
      have G28 := Nu.hid (blk_later15 G27.out hb8)
      have HBW8 := Nu.hid (HBW7.out.trans (hb8.mono HBW7.out.size))
      clear ho3 hb8 hN3 hi3 HC3
      have H5 : Hid (Ku.Is5 (Si.degs (m : Int) es) m (Ku.rows es hv' es.length) ↔ (N4 = 5 ∧ (m : Int) - (N0 : Int) - (N2 : Int) = 5 ∧ J = 10)) := by
        refine Nu.hid ?_
        unfold Ku.Is5 Ku.restI
        rw [HN4.out, HN0.out, HN2.out, HJ.out]
      have H33 : Hid (Ku.Is33 (Si.degs (m : Int) es) m (Ku.rows es hv' es.length) ↔ (N3 = 6 ∧ (m : Int) - (N0 : Int) - (N2 : Int) = 6 ∧ J = 9)) := by
        refine Nu.hid ?_
        unfold Ku.Is33 Ku.restI
        rw [HN3.out, HN0.out, HN2.out, HJ.out]
      obtain ⟨RI, hRI⟩ : ∃ RI, (m : Int) - (N0 : Int) - (N2 : Int) = RI := ⟨_, rfl⟩
      rw [hRI] at H5 H33 hw2' ⊢
      obtain ⟨y1, hy1⟩ : ∃ y, ((N4 : Int) == 5) = y := ⟨_, rfl⟩
      obtain ⟨y2, hy2⟩ : ∃ y, (RI == 5) = y := ⟨_, rfl⟩
      obtain ⟨y3, hy3⟩ : ∃ y, ((J : Int) == 10) = y := ⟨_, rfl⟩
      obtain ⟨x1, hx1⟩ : ∃ y, ((N3 : Int) == 6) = y := ⟨_, rfl⟩
      obtain ⟨x2, hx2⟩ : ∃ y, (RI == 6) = y := ⟨_, rfl⟩
      obtain ⟨x3, hx3⟩ : ∃ y, ((J : Int) == 9) = y := ⟨_, rfl⟩
      have hsum := Ku.ofL_some (Si.degs (m : Int) es) m
      rw [HN0.out, HN2.out, HN3.out, HN4.out] at hsum
      obtain ⟨z0, z1, z2, zf⟩ := cells3_15 G28.out
      have hk1 : w.heap.size + 1 < w8.heap.size := (Array.getElem?_eq_some_iff.1 G28.out).1
      have hkn : w.heap.size + 1 ≠ w8.heap.size := by omega
      have hzf0 := zf 0
      have hzf1 := zf 1
      have hzf2 := zf 2
      by_cases hA : N4 = 5 ∧ RI = 5 ∧ J = 10
      · have HIS : Hid (Ku.Is5 (Si.degs (m : Int) es) m (Ku.rows es hv' es.length)) := H5.out.2 hA
        obtain ⟨hA1, hA2, hA3⟩ := hA
        have e1 : y1 = true := by rw [← hy1, hA1]; rfl
        have e2 : y2 = true := by rw [← hy2, hA2]; rfl
        have e3 : y3 = true := by rw [← hy3, hA3]; rfl
        have e4 : x1 = false := by
          rw [← hx1]
          simp
          omega
        subst e1 e2 e3 e4
        have hN5 : N4 ≤ 6 := by omega
        have HLR : Hid (∀ l ∈ Ku.rows es hv' es.length, 1 ≤ l.length ∧ l.length ≤ 17592186044000) := by
          refine Nu.hid fun l hl => ?_
          obtain ⟨t, ht⟩ := List.getElem?_of_mem hl
          obtain ⟨c, hc, rfl⟩ := Ku.rows_at ht
          have hcn := Ku.chs_cn (hv := hv') (Nat.le_refl _) (List.mem_of_getElem? hc)
          rw [Ku.ZL_length, Ku.vs_length hcn.ne]
          have := Ku.cn_few hcn
          omega
        have hJl : J ≤ 17592186044000 := by omega
        obtain ⟨V, hV⟩ : ∃ V, V = w8.alloc (.cells #[.int .i64 1, .slice a4 N4 c4, .slice none 0 0] 36) := ⟨_, rfl⟩
        have hbK : Below w8.heap.size w8 V := by rw [hV]; exact (Below.refl _ _).alloc (Nat.le_refl _) _
        have gK : V.heap[w8.heap.size]? = some (.cells #[.int .i64 1, .slice a4 N4 c4, .slice none 0 0] 36 (0, 0)) := by rw [hV]; exact heap_alloc_new w8 _
        have hw1 : w.heap.size + 1 < w1.heap.size := lt_of_block G21.out
        have h6 : w1.heap.size ≤ w6.heap.size := HS16.out
        have h78 := HS78.out
        have HT := Nu.hid (fun (e : Ending) (w' : World) (hf : Ku.Found w.heap.size 1 (Ku.rows es hv' es.length) (Ku.ofL (Si.degs (m : Int) es) 4 m) e w') (hb : Below w.heap.size w w') => (⟨.inr ⟨m, hv', rfl, .inr (.inl ⟨HIS.out, hf⟩)⟩, hb⟩ : Ku.RecP (m : Int) es w e w'))
        have k1 : RowsZ V w1.heap.size (.slice va J vcc) us (Ku.rows es hv' es.length) := HRZ8.out.later hbK
        have k2 : ∀ b, ((Value.slice va J vcc).ownBlock = some b ∨ inV us b) → b ≠ w8.heap.size ∧ b ≠ w.heap.size + 1 := fun b hb => by
          have := HRZ8.out.within hb
          omega
        have k3 : ∀ x, a4 = some x → x.block ≠ w8.heap.size ∧ x.block ≠ w.heap.size + 1 ∧ w.heap.size ≤ x.block := fun x hx => by
          have := HB4A.out x hx
          omega
        have k4 : V.heap[w.heap.size + 1]? = _ := blk_later15 G28.out hbK
        have k5 : Below w.heap.size w V := HBW8.out.trans (hbK.mono HBW8.out.size)
        have k6 : IntsAt V a4 (Ku.ofL (Si.degs (m : Int) es) 4 m) := HI48.out.later hbK
        have HALL := Nu.hid (And.intro k1 (And.intro k2 (And.intro k3 (And.intro k4 (And.intro k5 (And.intro k6 gK))))))
        obtain ⟨c0, -, -, -⟩ := cells3_15 gK
        have HV := Nu.hid hV
        rw [hV] at c0
        clear hA1 hA2 hA3 hsum hx2 hx3 x2 x3 zf hRI k1 k2 k3 k4 k5 k6 hbK gK hV
        go_upto_region 16 with fail
        rw [← HV.out]
        obtain ⟨k1, k2, k3, k4, k5, k6, gK⟩ := HALL.out
        clear c0
        obtain ⟨c0, -, -, -⟩ := cells3_15 gK
        repeat (first | exact rtail w1.heap.size w8.heap.size (w.heap.size + 1) J vcc N4 c4 1 va a4 us (Ku.rows es hv' es.length) (Ku.ofL (Si.degs (m : Int) es) 4 m) (m : Int) es w V (.inl rfl) HN4.out hN5 HJ.out hJl k1 k2 HLR.out k6 k3 (by omega) gK k4 hkn ⟨by omega, by omega⟩ k5 HT.out | go_step)
      · by_cases hB : N3 = 6 ∧ RI = 6 ∧ J = 9
        · have HIS : Hid (Ku.Is33 (Si.degs (m : Int) es) m (Ku.rows es hv' es.length)) := H33.out.2 hB
          obtain ⟨hB1, hB2, hB3⟩ := hB
          have e1 : x1 = true := by rw [← hx1, hB1]; rfl
          have e2 : x2 = true := by rw [← hx2, hB2]; rfl
          have e3 : x3 = true := by rw [← hx3, hB3]; rfl
          have e4 : y1 = false := by
            rw [← hy1]
            simp
            omega
          subst e1 e2 e3 e4
          have H6 : Hid (N3 = 6) := Nu.hid hB1
          have HLR : Hid (∀ l ∈ Ku.rows es hv' es.length, 1 ≤ l.length ∧ l.length ≤ 17592186044000) := by
            refine Nu.hid fun l hl => ?_
            obtain ⟨t, ht⟩ := List.getElem?_of_mem hl
            obtain ⟨c, hc, rfl⟩ := Ku.rows_at ht
            have hcn := Ku.chs_cn (hv := hv') (Nat.le_refl _) (List.mem_of_getElem? hc)
            rw [Ku.ZL_length, Ku.vs_length hcn.ne]
            have := Ku.cn_few hcn
            omega
          have hJl : J ≤ 17592186044000 := by omega
          obtain ⟨V, hV⟩ : ∃ V, V = w8.alloc (.cells #[.int .i64 2, .slice none 0 0, .slice none 0 0] 36) := ⟨_, rfl⟩
          have hbK : Below w8.heap.size w8 V := by rw [hV]; exact (Below.refl _ _).alloc (Nat.le_refl _) _
          have gK : V.heap[w8.heap.size]? = some (.cells #[.int .i64 2, .slice none 0 0, .slice none 0 0] 36 (0, 0)) := by rw [hV]; exact heap_alloc_new w8 _
          have hw1 : w.heap.size + 1 < w1.heap.size := lt_of_block G21.out
          have h6 : w1.heap.size ≤ w6.heap.size := HS16.out
          have h78 := HS78.out
          have HSD := Nu.hid (ksides_any w1.heap.size va J vcc us (Ku.rows es hv' es.length) a3 N3 c3 (Ku.ofL (Si.degs (m : Int) es) 3 m) V HJ.out (HRZ8.out.later hbK) hJl HLR.out HN3.out (HI3.out.later hbK) (by omega))
          have hsV : w8.heap.size < V.heap.size := lt_of_block gK
          have HGK := Nu.hid gK
          have HBK := Nu.hid hbK
          have HV := Nu.hid hV
          have HT := Nu.hid (fun (e : Ending) (w' : World) (hf : Ku.Found w.heap.size 2 (Ku.rows es hv' es.length) (Ku.nearL (Ku.rows es hv' es.length) (Ku.ofL (Si.degs (m : Int) es) 3 m) 6 ++ Ku.farL (Ku.rows es hv' es.length) (Ku.ofL (Si.degs (m : Int) es) 3 m) 6) e w') (hb : Below w.heap.size w w') => (⟨.inr ⟨m, hv', rfl, .inr (.inr ⟨HIS.out, hf⟩)⟩, hb⟩ : Ku.RecP (m : Int) es w e w'))
          clear hA hB1 hB2 hB3 hsum hy2 hy3 y2 y3 zf hRI hbK gK hV
          go_wp2_with (go_at_call 27; rw [← HV.out]; refine HSD.out.mono ?_; refine Hid.out ?_)
          refine Nu.hid ?_
          rintro e w9 ⟨v9, rfl, ho9, hb9⟩
          rw [H6.out] at ho9
          obtain ⟨sa, sc, hve, hi9, hb9a⟩ := ho9.form
          obtain ⟨br, hbr⟩ : ∃ br, Ku.nearL (Ku.rows es hv' es.length) (Ku.ofL (Si.degs (m : Int) es) 3 m) 6 ++ Ku.farL (Ku.rows es hv' es.length) (Ku.ofL (Si.degs (m : Int) es) 3 m) 6 = br := ⟨_, rfl⟩
          have hbl : br.length = 6 := by rw [← hbr, List.length_append]; exact Ku.sides_len _ _ 6
          rw [hbr] at hve hi9 HT
          obtain ⟨q6, hq6⟩ : ∃ q6, br.length = q6 := ⟨_, rfl⟩
          rw [hq6] at hve hbl
          subst hve
          have HQ6 := Nu.hid hq6
          have hq66 : q6 ≤ 6 := by omega
          have g9 := blk_later15 HGK.out hb9
          obtain ⟨y0, y1, y2, yf⟩ := cells3_15 g9
          have hyf := yf 1
          have hs9 := hb9.size
          obtain ⟨X, hX⟩ : ∃ X, X = w9.setCell ⟨w8.heap.size, 1, none⟩ (.slice sa q6 sc) := ⟨_, rfl⟩
          have gX : X.heap[w8.heap.size]? = some (.cells #[.int .i64 2, .slice sa q6 sc, .slice none 0 0] 36 (0, 0)) := by
            rw [hX, heap_setCell_same w9 w8.heap.size 1 _ _ _ g9]
            simp
          have oX : ∀ b, b ≠ w8.heap.size → X.heap[b]? = w9.heap[b]? := fun b hb => by
            rw [hX]
            exact heap_setCell_other _ ⟨w8.heap.size, 1, none⟩ b _ hb
          have hb89 : Below w8.heap.size w8 w9 := HBK.out.trans (hb9.mono HBK.out.size)
          have hb9X : Below w.heap.size w X := by
            rw [hX]
            exact (HBW8.out.trans (hb89.mono HBW8.out.size)).setCell (p := ⟨w8.heap.size, 1, none⟩) (by have := HBW8.out.size; omega) _
          have k1 : RowsZ X w1.heap.size (.slice va J vcc) us (Ku.rows es hv' es.length) := (HRZ8.out.later hb89).kept fun b hb _ => oX b (by have := HRZ8.out.within hb; omega)
          have k2 : ∀ b, ((Value.slice va J vcc).ownBlock = some b ∨ inV us b) → b ≠ w8.heap.size ∧ b ≠ w.heap.size + 1 := fun b hb => by
            have := HRZ8.out.within hb
            omega
          have k3 : ∀ x, sa = some x → x.block ≠ w8.heap.size ∧ x.block ≠ w.heap.size + 1 ∧ w.heap.size ≤ x.block := fun x hx => by
            have := hb9a x hx
            omega
          have k4 : X.heap[w.heap.size + 1]? = some (.cells #[.int .i64 0, .slice none 0 0, .slice none 0 0] 36 (0, 0)) := (oX _ hkn).trans (blk_later15 G28.out hb89)
          have k6 : IntsAt X sa br := fun j x hj => by
            obtain ⟨b, o, he, hc⟩ := hi9 j x hj
            exact ⟨b, o, he, (World.cell?_of_block (a := ⟨b, o + j, none⟩) (oX b (k3 _ he).1)).trans hc⟩
          have HALL := Nu.hid (And.intro k1 (And.intro k2 (And.intro k3 (And.intro k4 (And.intro hb9X (And.intro k6 gX))))))
          have HX := Nu.hid hX
          clear yf hbr hbl hq6 k1 k2 k3 k4 k6 hb9X gX oX hb89 hX ho9 hi9 hb9a hb9 g9
          go_upto_region 16 with fail
          rw [← HX.out]
          obtain ⟨k1, k2, k3, k4, k5, k6, gK⟩ := HALL.out
          clear y0 y1 y2
          obtain ⟨c0, -, -, -⟩ := cells3_15 gK
          repeat (first | exact rtail w1.heap.size w8.heap.size (w.heap.size + 1) J vcc q6 sc 2 va sa us (Ku.rows es hv' es.length) br (m : Int) es w X (.inr rfl) HQ6.out hq66 HJ.out hJl k1 k2 HLR.out k6 k3 (by omega) gK k4 hkn ⟨by omega, by omega⟩ k5 HT.out | go_step)
        · have HNA : Hid (¬ Ku.Is5 (Si.degs (m : Int) es) m (Ku.rows es hv' es.length)) := fun h => hA (H5.out.1 h)
          have HNB : Hid (¬ Ku.Is33 (Si.degs (m : Int) es) m (Ku.rows es hv' es.length)) := fun h => hB (H33.out.1 h)
          have hya : y1 = false ∨ (y1 = true ∧ y2 = false) ∨ (y1 = true ∧ y2 = true ∧ y3 = false) := by
            have hno : ¬ (y1 = true ∧ y2 = true ∧ y3 = true) := fun ⟨a, b, c⟩ => hA ⟨by have := hy1.trans a; simp at this; omega, by have := hy2.trans b; simpa using this, by have := hy3.trans c; simp at this; omega⟩
            revert hno
            clear hy1 hy2 hy3
            cases y1 <;> cases y2 <;> cases y3 <;> simp
          have hxa : x1 = false ∨ (x1 = true ∧ x2 = false) ∨ (x1 = true ∧ x2 = true ∧ x3 = false) := by
            have hno : ¬ (x1 = true ∧ x2 = true ∧ x3 = true) := fun ⟨a, b, c⟩ => hB ⟨by have := hx1.trans a; simp at this; omega, by have := hx2.trans b; simpa using this, by have := hx3.trans c; simp at this; omega⟩
            revert hno
            clear hx1 hx2 hx3
            cases x1 <;> cases x2 <;> cases x3 <;> simp
          clear hA hB hsum zf
          rcases hya with rfl | ⟨rfl, rfl⟩ | ⟨rfl, rfl, rfl⟩ <;> rcases hxa with rfl | ⟨rfl, rfl⟩ | ⟨rfl, rfl, rfl⟩
          all_goals
            go_wp2
            refine bodyPost_ret (results_kura3 rfl rfl _ _ (w.heap.size + 1) _ _ _ _ _ rfl rfl rfl (aside15 (set_three15 z0 z1 z2 _ _ _).1 _) (aside15 (set_three15 z0 z1 z2 _ _ _).2.1 _) (aside15 (set_three15 z0 z1 z2 _ _ _).2.2 _)) rfl ?_
            exact ⟨.inr ⟨m, hv', rfl, .inl ⟨HNA.out, HNB.out, rfl⟩⟩, (below_set3 HBW8.out (by omega) _ _ _).alloc (below_set3 HBW8.out (by omega) _ _ _).size _⟩
  · have HV := Nu.hid hv
    clear hv hb1
    go_wp2
    refine bodyPost_ret (results_kura3 rfl rfl _ _ (w.heap.size + 1) _ _ _ _ _ rfl rfl rfl (set_three15 z0 z1 z2 _ _ _).1 (set_three15 z0 z1 z2 _ _ _).2.1 (set_three15 z0 z1 z2 _ _ _).2.2) rfl ?_
    exact ⟨.inl ⟨HV.out, rfl⟩, below_set3 HBW1.out (by omega) _ _ _⟩

end Go.Proofs.Ytdhaaodalchpkab
