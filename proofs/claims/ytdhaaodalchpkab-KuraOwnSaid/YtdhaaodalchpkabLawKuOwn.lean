/-
  Proved: for every graph the law KuraOwn answers true, and the graph reads afterwards as before. No condition.
-/
import Derived.Test.YtdhaaodalchpkabKoC
import Derived.Test.YtdhaaodalchpkabKwE
import Derived.Test.YtdhaaodalchpkabSiGin
import Derived.Deep.RegionHeld3
namespace Go.Proofs.Ytdhaaodalchpkab
open Go.ChangeShapes Go.WideShapes Go.ChangeAt Go.RowKit
namespace lawKO

theorem start13 {w12 : World} {B : Nat} {v : Value} {us : List Value} {ls : List (List Int)} (h : RowsZ w12 B v us ls) : ∀ b, inV us b → ¬ ((Value.slice (some ⟨w12.heap.size, 0, none⟩) 0 0).ownBlock = some b ∨ inV [] b) := fun b hb hc => by
  have h1 := (h.within (.inr hb)).2
  rcases hc with hc | ⟨u, x, hx, _⟩
  · have : w12.heap.size = b := by simpa [Value.ownBlock] using hc
    omega
  · simp at hx
theorem keep13 {w12 U w13 : World} {v13 : Value} (hU : Below w12.heap.size w12 U) (hg : U.grownBy w13 (some w12.heap.size)) (hat : v13.ownBlock = some w12.heap.size ∨ v13.ownBlock = some U.heap.size) : Below w12.heap.size w12 w13 ∧ ∀ b, v13.ownBlock = some b → w12.heap.size ≤ b :=
  ⟨hU.grown hg hU.size (fun b hb => by cases hb; exact Nat.le_refl _), fun b hb => by
    rcases hat with e | e <;> rw [hb] at e <;> cases e
    · exact Nat.le_refl _
    · exact hU.size⟩
theorem alloc13 (w12 : World) (ob : Obj) : Below w12.heap.size w12 (w12.alloc ob).drew := ((Below.refl _ _).alloc (Nat.le_refl _) _).drew
theorem next14 {w12 w13 w14 : World} {v13 : Value} (hb : Below w12.heap.size w12 w13) (hg : w13.grownBy w14 v13.ownBlock) (hv : ∀ b, v13.ownBlock = some b → w12.heap.size ≤ b) : Below w12.heap.size w12 w14 := hb.grown hg hb.size hv
theorem far13 {s4 s5 s6 s7 s7b s8 s8b s9 s10 s11 s12 : Nat} {v v7 v5 : Value} {us5 us7 : List Value} (h7 : ∀ b, (v7.ownBlock = some b ∨ inV us7 b) → s6 ≤ b ∧ b < s7) (h5 : ∀ b, (v5.ownBlock = some b ∨ inV us5 b) → s4 ≤ b ∧ b < s5) (hv : ∀ b, v.ownBlock = some b → s12 ≤ b)
    (sz : s4 ≤ s5 ∧ s5 ≤ s6 ∧ s6 ≤ s7 ∧ s7 < s7b ∧ s7b ≤ s8 ∧ s8 < s8b ∧ s8b ≤ s9 ∧ s9 ≤ s10 ∧ s10 ≤ s11 ∧ s11 < s12) : ∀ b, inV us7 b → ¬ (v.ownBlock = some b ∨ inV us5 b) := fun b hb hc => by
  have h1 := h7 b (.inr hb)
  rcases hc with hc | hc
  · have := hv b hc
    omega
  · have := h5 b (.inr hc)
    omega

set_option maxRecDepth 100000 in
set_option maxHeartbeats 32000000 in
theorem walk (n : Int) (ao : Option Addr) (ca : Nat) (es : List (Int × Int)) (w : World) (_ : -9223372036854775808 ≤ n ∧ n ≤ 9223372036854775807) (hq : PairsIn w ao es.length ca es) (hle : es.length * 16 ≤ 140737488351232) :
    Calls Try.prog 3 #[.agg #[.int .i64 n, .slice ao es.length ca]] w fun e w' => e = .returned (.bool true) ∧ Below w.heap.size w w' := by
  obtain ⟨i0, hi, hz0, hz1, hz2⟩ := info_parts Try.infoEdge
  have HG0 : Hid (Gr15 w n ao ca es _) := Nu.hid (.start hq.hat)
  have HC : Hid (∀ a c W, EdgesAt W a es → Calls Try.prog 6 #[.agg #[.int .i64 n, .slice a es.length c]] W (Ku.KcO (Ku.kc n es) W)) := fun a c W h => pchains_own n a c es W h (by omega)
  have HR : Hid (∀ a c W, EdgesAt W a es → Calls Try.prog 7 #[.agg #[.int .i64 n, .slice a es.length c]] W (Ku.KrO (Ku.kr n es) W)) := fun a c W h => precognise_own n a c es W h (by omega)
  have HDC : Hid (∀ a c W, EdgesAt W a es → Calls Try.prog 9 #[.agg #[.int .i64 n, .slice a es.length c]] W (Ku.KcO (Ku.kc n es) W)) := fun a c W h => dchains_own n a c es W h (by omega)
  have HDR : Hid (∀ a c W, EdgesAt W a es → Calls Try.prog 10 #[.agg #[.int .i64 n, .slice a es.length c]] W (Ku.KrN (Ku.kr n es) W)) := fun a c W h => drecognise_new n a c es W h (by omega)
  obtain ⟨l1, l2⟩ := Ku.kc_len n es
  obtain ⟨l3, l4, -⟩ := Ku.kr_small n es
  have l5 := Ku.kr_len n es
  obtain ⟨⟨R, z1⟩, hr1⟩ : ∃ r, Ku.kc n es = r := ⟨_, rfl⟩
  obtain ⟨⟨kd, br, ps, is, z2⟩, hr2⟩ : ∃ r, Ku.kr n es = r := ⟨_, rfl⟩
  rw [hr1] at HC HDC l1 l2
  rw [hr2] at HR HDR l3 l4 l5
  unfold Ku.KcO at HC HDC
  unfold Ku.KrO at HR
  unfold Ku.KrN at HDR
  dsimp only at HC HDC HR HDR l1 l2 l3 l4 l5
  obtain ⟨J, hJ⟩ : ∃ J, R.length = J := ⟨_, rfl⟩
  obtain ⟨q, hbq⟩ : ∃ q, br.length = q := ⟨_, rfl⟩
  obtain ⟨p, hpq⟩ : ∃ p, ps.length = p := ⟨_, rfl⟩
  rw [hJ] at HC HDC l1
  rw [hbq, hpq] at HR HDR
  rw [hbq] at l3
  rw [hpq] at l4
  have HJ := Nu.hid hJ
  have HBQ := Nu.hid hbq
  have HPQ := Nu.hid hpq
  have HL2 := Nu.hid l2
  have HL5 := Nu.hid l5
  have hle' : es.length * 16 ≤ 140737488355328 := by omega
  clear hq hr1 hr2 hJ hbq hpq l2 l5
  go_enter Try.func3, Try.ntmps3
  go_wp2_with (go_at_call 4; refine (wakes15_any _).mono ?_; rintro e w1 ⟨rfl, hb⟩; refine Hid.out ?_)
  refine Nu.hid ?_
  have G1 := Nu.hid (HG0.out.later hb)
  obtain ⟨x0, x1⟩ := G1.out.cells
  have HCP : Hid (Calls Try.prog 5 #[.agg #[.int .i64 n, .slice ao es.length ca]] w1 fun e w' => ∃ a c, e = .returned (.agg #[.int .i64 n, .slice a es.length c]) ∧ OwnE w' w1.heap.size (.slice a es.length c) es ∧ Below w1.heap.size w1 w') := (rcopy_any n ao ca es w1 G1.out.edges hle').mono (by
    rintro e w' ⟨v, rfl, h1, h2⟩
    obtain ⟨a, c, rfl, _⟩ := h1.form
    exact ⟨a, c, rfl, h1, h2⟩)
  clear hb HG0
  have hfld := field_edges
  go_wp2_with (first
    | (go_at_call 5; refine HCP.out.mono ?_; rintro e w2 ⟨a2, c2, rfl, ho2, hb2⟩; have HO2 := Nu.hid ho2; have G2 := Nu.hid (G1.out.later hb2); have hs2 := hb2.size; clear ho2 hb2)
    | (at_builtin; refine wpList_append_own _ rfl _ _ 22 rfl w1.heap.size 28 i0 (.agg #[.int .i64 0, .int .i64 0]) 2 16 Try.underlying22 hi hz0 hz1 hz2 rfl (by decide) _ _ _ rfl (HO2.out.alloc _) ⟨w2.heap.size, 0, none⟩ 1 1 [.int .i64 (-1), .int .i64 (-2)] rfl rfl (World.news_of_block (heap_alloc_new w2 _)) (by simp [Value.oneCell']) (by unfold maxLen; omega) (by omega) (by simp; omega) ?_; refine Hid.out ?_))
  refine Nu.hid ?_
  intro v' w3 hrow3 hg3 _
  obtain ⟨gf, cf, hv'⟩ : ∃ gf cf, v' = .slice (some ⟨gf, 0, none⟩) (es.length + 1) cf := by
    rcases hrow3.2 with ⟨_, h0⟩ | ⟨g, cap, cur, e, _⟩
    · omega
    · exact ⟨g, cap, e⟩
  subst hv'
  have ho3 : OwnE w3 w1.heap.size (.slice (some ⟨gf, 0, none⟩) (es.length + 1) cf) (es ++ [(-1, -2)]) := by
    have e : flatE (es ++ [(-1, -2)]) = flatE es ++ [.int .i64 (-1), .int .i64 (-2)] := by simp [flatE]
    unfold OwnE
    rw [e, List.length_append]
    exact hrow3
  have G3 : Hid (Gr15 w n ao ca es w3) := by
    have h1 := G2.out.later (W' := w2.alloc (.cells #[.int .i64 (-1), .int .i64 (-2)] 28)) ((Below.refl _ _).alloc (Nat.le_refl _) _)
    have hbx := lt_of_block G1.out.box
    have hlw := G1.out.low.size
    refine ⟨h1.at_, h1.low.grown hg3 (by simp; omega) (fun b hb => by have := (World.ownsRow.lt HO2.out b hb).1; omega), ?_⟩
    rw [hg3.block w.heap.size (by simp; omega) (fun e => by have := (World.ownsRow.lt HO2.out _ e.symm).1; omega)]
    exact h1.box
  have HO3 := Nu.hid ho3
  have hgfl := World.ownsRow.lt ho3 gf rfl
  have hcf := own_cap15 ho3
  have hs1 : w.heap.size < w1.heap.size := lt_of_block G1.out.box
  clear hrow3 hg3 ho3 hfld x0 x1 HO2 G1 G2
  obtain ⟨x0, x1⟩ := G3.out.cells
  have hbr : Below w3.heap.size w3 w3.drew := (Below.refl _ _).drew
  have HS : Hid (∀ W, Below w3.heap.size w3 W → (W.cell? ⟨w.heap.size, 0, none⟩ = some (.int .i64 n) ∧ Below w3.heap.size w3 W)) := fun W hW => ⟨(G3.out.later hW).cells.1, hW⟩
  have i1 : (0 : Int) ≤ (es.length : Int) := by omega
  have i2 : (es.length : Int) ≤ (es.length : Int) + 1 := by omega
  have i3 : (es.length : Int) ≤ (cf : Int) := by simp at hcf; omega
  go_wp2_with fail
  go_region_held3 (fun W => W.cell? ⟨w.heap.size, 0, none⟩ = some (.int .i64 n) ∧ Below w3.heap.size w3 W)
    (exact HS.out _ (by first | assumption | exact hbr | exact ((Below.refl w3.heap.size w3).alloc (Nat.le_refl _) _).drew))
    (fail)
  obtain ⟨w4, hw4⟩ : ∃ w4, w4 = (w3.alloc (.cells #[.int .i64 n, .slice (some ⟨gf, 0, none⟩) es.length cf] 24)).drew := ⟨_, rfl⟩
  have hb4 : Below w3.heap.size w3 w4 := by rw [hw4]; exact ((Below.refl _ _).alloc (Nat.le_refl _) _).drew
  have H4 : Hid (Ho15 w n ao ca es w3.heap.size gf cf w1.heap.size w4) := ⟨G3.out.later hb4, by rw [hw4]; exact heap_alloc_new w3 _, HO3.out.below hb4 (Nat.le_refl _)⟩
  rw [← hw4]
  obtain ⟨bh, hbh⟩ : ∃ bh, w3.heap.size = bh := ⟨_, rfl⟩
  rw [hbh] at H4 ⊢
  have hbh4 : bh < w4.heap.size := lt_of_block H4.out.box
  have hgf4 : gf < bh := by omega
  have hw1bh : w1.heap.size ≤ bh := by omega
  have HCF : Hid (es.length + 1 ≤ cf) := Nu.hid (by simpa using hcf)
  clear x0 x1 hbr HS i1 i2 i3 hw4 hb4 hbh G3 HO3 hcf
  obtain ⟨y0, y1⟩ := H4.out.cells
  go_wp2_with (go_at_call 6; refine (HC.out _ _ _ H4.out.edges).mono ?_; rintro e w5 ⟨a5, c5, us5, rfl, ho5, hb5⟩; refine Hid.out ?_)
  refine Nu.hid ?_
  try dsimp only
  have A5 := Nu.hid ho5
  have H5 := Nu.hid (H4.out.later hb5)
  have B5 := Nu.hid hb5
  clear y0 y1 hb5 ho5 H4
  obtain ⟨y0, y1⟩ := H5.out.cells
  go_wp2_with (go_at_call 6; refine (HC.out _ _ _ H5.out.edges).mono ?_; rintro e w6 ⟨a6, c6, us6, rfl, ho6, hb6⟩; refine Hid.out ?_)
  refine Nu.hid ?_
  try dsimp only
  have A6 := Nu.hid ho6
  have H6 := Nu.hid (H5.out.later hb6)
  have B6 := Nu.hid hb6
  clear y0 y1 hb6 ho6 H5
  obtain ⟨y0, y1⟩ := H6.out.cells
  go_wp2_with (go_at_call 7; refine (HR.out _ _ _ H6.out.edges).mono ?_; rintro e w7 ⟨a7, c7, b7, d7, us7, rfl, ho7, hp7, hn7, hb7⟩; refine Hid.out ?_)
  refine Nu.hid ?_
  try dsimp only
  have A7 := Nu.hid ho7
  have P7 := Nu.hid hp7
  have N7 := Nu.hid hn7
  have H7 := Nu.hid (H6.out.later hb7)
  have B7 := Nu.hid hb7
  clear y0 y1 hb7 ho7 hp7 hn7 H6
  obtain ⟨w7b, hw7⟩ : ∃ W, W = w7.alloc (.cells #[.int .i64 kd, .slice a7 q c7, .slice b7 p d7] 36) := ⟨_, rfl⟩
  have hb7b : Below w7.heap.size w7 w7b := by rw [hw7]; exact (Below.refl _ _).alloc (Nat.le_refl _) _
  have X7 : Hid (w7b.heap[w7.heap.size]? = some (.cells #[.int .i64 kd, .slice a7 q c7, .slice b7 p d7] 36 (0, 0))) := by
    show _ = _
    rw [hw7]
    exact heap_alloc_new w7 _
  have H7b := Nu.hid (H7.out.later hb7b)
  have B7b := Nu.hid hb7b
  have W7 := Nu.hid hw7
  clear hw7 hb7b H7
  obtain ⟨y0, y1⟩ := H7b.out.cells
  rw [W7.out] at y0 y1
  go_wp2_with (go_at_call 7; rw [← W7.out]; refine (HR.out _ _ _ H7b.out.edges).mono ?_; rintro e w8 ⟨a8, c8, b8, d8, us8, rfl, ho8, hp8, hn8, hb8⟩; refine Hid.out ?_)
  refine Nu.hid ?_
  try dsimp only
  have A8 := Nu.hid ho8
  have P8 := Nu.hid hp8
  have H8 := Nu.hid (H7b.out.later hb8)
  have B8 := Nu.hid hb8
  clear y0 y1 hb8 ho8 hp8 hn8 H7b
  obtain ⟨w8b, hw8⟩ : ∃ W, W = w8.alloc (.cells #[.int .i64 kd, .slice a8 q c8, .slice b8 p d8] 36) := ⟨_, rfl⟩
  have hb8b : Below w8.heap.size w8 w8b := by rw [hw8]; exact (Below.refl _ _).alloc (Nat.le_refl _) _
  have X8 : Hid (w8b.heap[w8.heap.size]? = some (.cells #[.int .i64 kd, .slice a8 q c8, .slice b8 p d8] 36 (0, 0))) := by
    show _ = _
    rw [hw8]
    exact heap_alloc_new w8 _
  have H8b := Nu.hid (H8.out.later hb8b)
  have B8b := Nu.hid hb8b
  have W8 := Nu.hid hw8
  clear hw8 hb8b H8
  obtain ⟨y0, y1⟩ := H8b.out.cells
  obtain ⟨x0, x1⟩ := H8b.out.g.cells
  rw [W8.out] at y0 y1 x0 x1
  have HEQ := Nu.hid (equal15_two (n := n) (ca := cf) (cb := ca) H8b.out.edges H8b.out.g.edges (by omega))
  go_wp2_with (go_at_call 8; rw [← W8.out]; refine HEQ.out.mono ?_; rintro e w9 ⟨rfl, hb9⟩; refine Hid.out ?_)
  refine Nu.hid ?_
  have H9 := Nu.hid (H8b.out.later hb9)
  have B9 := Nu.hid hb9
  clear y0 y1 x0 x1 hb9 HEQ H8b
  obtain ⟨fb, fo, efo, f0, f1⟩ := H9.out.all es.length (-1, -2) (by simp)
  cases efo
  rw [Nat.zero_add] at f0 f1
  obtain ⟨x0, x1⟩ := H9.out.g.cells
  have i1 : (0 : Int) ≤ (es.length : Int) := by omega
  have i2 : (es.length : Int) < (es.length : Int) + 1 := by omega
  go_wp2_with (go_at_call 9; refine (HDC.out _ _ _ H9.out.g.edges).mono ?_; rintro e w10 ⟨a10, c10, us10, rfl, ho10, hb10⟩; refine Hid.out ?_)
  refine Nu.hid ?_
  try dsimp only
  have A10 := Nu.hid ho10
  have H10 := Nu.hid (H9.out.later hb10)
  have B10 := Nu.hid hb10
  clear x0 x1 hb10 ho10 H9 f0 f1 i1 i2
  obtain ⟨x0, x1⟩ := H10.out.g.cells
  go_wp2_with (go_at_call 10; refine (HDR.out _ _ _ H10.out.g.edges).mono ?_; rintro e w11 ⟨a11, c11, b11, d11, rfl, hi11, hn11, hs11, hb11⟩; refine Hid.out ?_)
  refine Nu.hid ?_
  try dsimp only
  have I11 := Nu.hid hi11
  have N11 := Nu.hid hn11
  have S11 := Nu.hid hs11
  have H11 := Nu.hid (H10.out.later hb11)
  have B11 := Nu.hid hb11
  clear x0 x1 hb11 hi11 hn11 hs11 H10
  obtain ⟨w12, hw12⟩ : ∃ W, W = w11.alloc (.cells #[.int .i64 kd, .slice a11 q c11, .slice b11 p d11] 36) := ⟨_, rfl⟩
  have hb12 : Below w11.heap.size w11 w12 := by rw [hw12]; exact (Below.refl _ _).alloc (Nat.le_refl _) _
  have X12 : Hid (w12.heap[w11.heap.size]? = some (.cells #[.int .i64 kd, .slice a11 q c11, .slice b11 p d11] 36 (0, 0))) := by
    show _ = _
    rw [hw12]
    exact heap_alloc_new w11 _
  have H12 := Nu.hid (H11.out.later hb12)
  have W12 := Nu.hid hw12
  -- the worlds' ways to the last of them
  have C11 := Nu.hid hb12
  have C10 := Nu.hid (B11.out.trans (C11.out.mono B11.out.size))
  have C9 := Nu.hid (B10.out.trans (C10.out.mono B10.out.size))
  have C8b := Nu.hid (B9.out.trans (C9.out.mono B9.out.size))
  have C8 := Nu.hid (B8b.out.trans (C8b.out.mono B8b.out.size))
  have C7b := Nu.hid (B8.out.trans (C8.out.mono B8.out.size))
  have C7 := Nu.hid (B7b.out.trans (C7b.out.mono B7b.out.size))
  have C6 := Nu.hid (B7.out.trans (C7.out.mono B7.out.size))
  have C5 := Nu.hid (B6.out.trans (C6.out.mono B6.out.size))
  have sz : w4.heap.size ≤ w5.heap.size ∧ w5.heap.size ≤ w6.heap.size ∧ w6.heap.size ≤ w7.heap.size ∧ w7.heap.size < w7b.heap.size ∧ w7b.heap.size ≤ w8.heap.size ∧ w8.heap.size < w8b.heap.size ∧ w8b.heap.size ≤ w9.heap.size ∧ w9.heap.size ≤ w10.heap.size ∧ w10.heap.size ≤ w11.heap.size ∧ w11.heap.size < w12.heap.size :=
    ⟨B5.out.size, B6.out.size, B7.out.size, lt_of_block X7.out, B8.out.size, lt_of_block X8.out, B9.out.size, B10.out.size, B11.out.size, lt_of_block X12.out⟩
  have SZ := Nu.hid sz
  have R5 : Hid (∀ b, ((Value.slice a5 J c5).ownBlock = some b ∨ inV us5 b) → w4.heap.size ≤ b ∧ b < w5.heap.size) := fun b hb => A5.out.within hb
  have R6 : Hid (∀ b, ((Value.slice a6 J c6).ownBlock = some b ∨ inV us6 b) → w5.heap.size ≤ b ∧ b < w6.heap.size) := fun b hb => A6.out.within hb
  have R7 : Hid (∀ b, (Value.slice a7 q c7).ownBlock = some b → w6.heap.size ≤ b ∧ b < w7.heap.size) := fun b hb => World.ownsRow.lt A7.out b hb
  have Q7 : Hid (∀ b, ((Value.slice b7 p d7).ownBlock = some b ∨ inV us7 b) → w6.heap.size ≤ b ∧ b < w7.heap.size) := fun b hb => P7.out.within hb
  have R8 : Hid (∀ b, (Value.slice a8 q c8).ownBlock = some b → w7b.heap.size ≤ b ∧ b < w8.heap.size) := fun b hb => World.ownsRow.lt A8.out b hb
  have Q8 : Hid (∀ b, ((Value.slice b8 p d8).ownBlock = some b ∨ inV us8 b) → w7b.heap.size ≤ b ∧ b < w8.heap.size) := fun b hb => P8.out.within hb
  have R10 : Hid (∀ b, ((Value.slice a10 J c10).ownBlock = some b ∨ inV us10 b) → w9.heap.size ≤ b ∧ b < w10.heap.size) := fun b hb => A10.out.within hb
  have HX7 : Hid (∀ U, Below w12.heap.size w12 U → U.cell? ⟨w7.heap.size, 1, none⟩ = some (.slice a7 q c7) ∧ U.cell? ⟨w7.heap.size, 2, none⟩ = some (.slice b7 p d7)) := fun U hU => by
    have h1 := C7b.out.trans (hU.mono C7b.out.size)
    obtain ⟨_, z1, z2, -⟩ := cells3_15 ((h1.block _ (lt_of_block X7.out)).trans X7.out)
    exact ⟨z1, z2⟩
  have A5L : Hid (RowsZ w12 w4.heap.size (.slice a5 J c5) us5 R) := A5.out.later C5.out
  have P7L : Hid (RowsZ w12 w4.heap.size (.slice b7 p d7) us7 ps) := (P7.out.later C7.out).lower (by have := SZ.out; omega)
  have A7L : Hid (OwnZ w12 w4.heap.size (.slice a7 q c7) br) := (A7.out.later C7.out).lower (by have := SZ.out; omega)
  have hn5 : a5 = none → c5 = 0 := fun e => by
    rcases A5.out.outer.2 with ⟨h, _⟩ | ⟨g, cap, cur, h, _⟩
    · cases h; rfl
    · rw [e] at h; cases h
  have hn7 : b7 = none → d7 = 0 := fun e => by
    rcases P7.out.outer.2 with ⟨h, _⟩ | ⟨g, cap, cur, h, _⟩
    · cases h; rfl
    · rw [e] at h; cases h
  have HN5 := Nu.hid hn5
  have HN7 := Nu.hid hn7
  have HJB := Nu.hid l1
  have HPB := Nu.hid l4
  have HB0 : Hid (w4.heap.size ≤ w12.heap.size) := Nu.hid (by omega)
  have HSV : Hid (∀ V, Below w12.heap.size w12 V → (V.cell? ⟨w7.heap.size, 2, none⟩ = some (.slice b7 p d7) ∧ Below w12.heap.size w12 V)) := fun V hV => ⟨(HX7.out V hV).2, hV⟩
  clear hb12 hw12 sz hn5 hn7 l1 l4
  go_wp2_with fail
  rw [← W12.out]
  go_region_held3 (fun V => V.cell? ⟨w7.heap.size, 2, none⟩ = some (.slice b7 p d7) ∧ Below w12.heap.size w12 V)
    (exact HSV.out _ (by first | assumption | exact (Below.refl _ _) | exact (Below.refl _ _).drew | exact (Below.refl w12.heap.size w12).alloc (Nat.le_refl _) _ | exact ((Below.refl w12.heap.size w12).alloc (Nat.le_refl _) _).drew | exact Below.drew (by assumption)))
    (first
      | (rw [if_pos (by rfl)]; refine wp_pushR15 (vs := us5) _ _ (by rfl) R hr13 hB13 (by rfl) w4.heap.size b7 p d7 us7 ps HPQ.out (by rfl) HN7.out (P7L.out.later hb13) (Nat.le_refl _) hd13 (by have := HJ.out; have := HJB.out; have := HPB.out; omega) ?_; intro v14 w14 hr14 hg14 hat14; have hb14 := next14 hb13 hg14 hv13)
      | (rw [if_pos (by rfl)]; refine wp_pushR15 (vs := []) (v := .slice (some ⟨w12.heap.size, 0, none⟩) 0 0) _ _ (by rfl) [] (rows_empty HB0.out (heap_alloc_new w12 _)) (Nat.le_trans HB0.out (alloc13 w12 _).size) (by rfl) w4.heap.size a5 J c5 us5 R HJ.out (by rfl) HN5.out (A5L.out.later (alloc13 w12 _)) (Nat.le_refl _) (start13 A5L.out) (by have := HJB.out; simp; omega) ?_; intro v13 w13 hr13 hg13 hat13; have hr13 : RowsZ w13 w4.heap.size v13 us5 R := hr13; obtain ⟨hb13, hv13⟩ := keep13 (alloc13 w12 _) hg13 hat13; have hB13 : w4.heap.size ≤ w13.heap.size := Nat.le_trans HB0.out hb13.size; have hd13 := far13 Q7.out R5.out hv13 SZ.out))
  obtain ⟨a14, c14, rfl⟩ := row_shape hr14
  obtain ⟨K1, hK1⟩ : ∃ K1, (R ++ ps).length = K1 := ⟨_, rfl⟩
  have hr14 : RowsZ w14 w4.heap.size (.slice a14 (R ++ ps).length c14) (us5 ++ us7) (R ++ ps) := hr14
  have hv14 : ∀ b, (Value.slice a14 (R ++ ps).length c14).ownBlock = some b → w12.heap.size ≤ b := fun b hb => by
    rcases hat14 with e | e
    · exact hv13 b (e ▸ hb)
    · rw [hb] at e
      cases e
      exact hb13.size
  rw [hK1] at hr14 hv14 ⊢
  have HR14 := Nu.hid hr14
  have HV14 := Nu.hid hv14
  have HK1 := Nu.hid hK1
  have HB14 := Nu.hid hb14
  have hK1b : K1 ≤ 8388608 := by
    have h1 := HJ.out
    have h2 := HJB.out
    have h3 := HPQ.out
    have h4 := HPB.out
    rw [List.length_append] at hK1
    omega
  have HA14 : Hid (OwnZ w14 w4.heap.size (.slice a7 q c7) br) := A7L.out.later hb14
  have HD1 : Hid (∀ (u : Nat) (z : Value) (b : Nat), (us5 ++ us7)[u]? = some z → z.ownBlock = some b → (Value.slice a7 q c7).ownBlock ≠ some b) := fun u z b hz hzb e => by
    have h1 := R7.out b e
    have hs := SZ.out
    rcases List.mem_append.1 (List.mem_of_getElem? hz) with hm | hm
    · obtain ⟨j, hj⟩ := List.getElem?_of_mem hm
      have := R5.out b (.inr ⟨j, z, hj, hzb⟩)
      omega
    · obtain ⟨j, hj⟩ := List.getElem?_of_mem hm
      exact (N7.out b e).2 ⟨j, z, hj, hzb⟩
  have HD2 : Hid (∀ b, (Value.slice a14 K1 c14).ownBlock = some b → (Value.slice a7 q c7).ownBlock ≠ some b) := fun b hb e => by
    have h1 := R7.out b e
    have h2 := HV14.out b hb
    have hs := SZ.out
    omega
  obtain ⟨x1, -⟩ := HX7.out w14 hb14
  have hB14 : w4.heap.size ≤ w14.heap.size := Nat.le_trans HB0.out hb14.size
  clear hr13 hg13 hat13 hb13 hv13 hB13 hd13 hr14 hg14 hat14 hb14 hv14 hK1
  go_wp2_with (at_builtin; refine wpList_pushRowG rfl _ _ 29 Try.underlying29 rfl w14 w4.heap.size (.slice a14 K1 c14) (us5 ++ us7) (R ++ ps) (.slice a7 q c7) br HR14.out HA14.out HD1.out HD2.out hB14 (by have := HK1.out; omega) rfl rfl ?_; refine Hid.out ?_)
  refine Nu.hid ?_
  intro v15 w15 hr15 hkeep15 hv15 hb15
  have hr15 : RowsZ w15 w4.heap.size v15 (us5 ++ us7 ++ [.slice a7 q c7]) (R ++ ps ++ [br]) := by
    rw [List.append_assoc, List.append_assoc]
    exact hr15
  obtain ⟨a15, c15, rfl⟩ := row_shape hr15
  obtain ⟨K, hK⟩ : ∃ K, (R ++ ps ++ [br]).length = K := ⟨_, rfl⟩
  rw [hK] at hr15 hv15 ⊢
  have hb1415 : Below w12.heap.size w14 w15 := ⟨hb15.os, hb15.tape, hb15.output, hb15.size, fun b hb => hkeep15 b (Nat.lt_of_lt_of_le hb HB14.out.size) (fun e => by have := HV14.out b e; omega)⟩
  have hbV : Below w12.heap.size w12 w15 := HB14.out.trans hb1415
  have HV15 := H12.out.later hbV
  have hs := SZ.out
  have hbw1 := hs1
  have hlo : w.heap.size ≤ w4.heap.size := by omega
  have hlowV := HV15.g.low
  have hin : ∀ b, inV (us5 ++ us7 ++ [.slice a7 q c7]) b → (w4.heap.size ≤ b ∧ b < w5.heap.size) ∨ (w6.heap.size ≤ b ∧ b < w7.heap.size) := fun b hb => by
    rcases in_parts hb with h | h | h
    · exact .inl (R5.out b (.inr h))
    · exact .inr (Q7.out b (.inr h))
    · exact .inr (R7.out b (in_one h))
  have hgf : ¬ inV (us5 ++ us7 ++ [.slice a7 q c7]) gf := fun h => by
    have := hin gf h
    omega
  have hSI : ∀ b, (inV (us5 ++ us7 ++ [.slice a7 q c7]) b ∨ b = gf) → (w4.heap.size ≤ b ∧ b < w5.heap.size) ∨ (w6.heap.size ≤ b ∧ b < w7.heap.size) ∨ b = gf := fun b hb => by
    rcases hb with hb | hb
    · rcases hin b hb with h | h
      · exact .inl h
      · exact .inr (.inl h)
    · exact .inr (.inr hb)
  have hgfw : w.heap.size ≤ gf ∧ gf < w4.heap.size := by omega
  have k6 := C6.out.trans (hbV.mono C6.out.size)
  have k8 := C8.out.trans (hbV.mono C8.out.size)
  have k8b := C8b.out.trans (hbV.mono C8b.out.size)
  have k10 := C10.out.trans (hbV.mono C10.out.size)
  have k11 := C11.out.trans (hbV.mono C11.out.size)
  have hKP : ∀ U, Wrote (fun b => inV (us5 ++ us7 ++ [.slice a7 q c7]) b ∨ b = gf) w15 U → Fin15 w8.heap.size w11.heap.size kd br ps R a6 a10 a8 a11 b8 b11 J q p c6 c10 c8 c11 d8 d11 U := fun U hU => by
    have hJ := HJ.out
    have hp := HPQ.out
    have hq := HBQ.out
    refine ⟨?_, ?_, ?_, ?_, ?_, ?_, ?_, ?_⟩
    · exact Ku.sees_rows ((A6.out.later k6).kept fun b hb hlt => hU.block b hlt (fun h => by have h1 := R6.out b hb; have := hSI _ h; omega))
    · exact Ku.sees_rows ((A10.out.later k10).kept fun b hb hlt => hU.block b hlt (fun h => by have h1 := R10.out b hb; have := hSI _ h; omega))
    · have hm := (k8b.block _ (lt_of_block X8.out)).trans X8.out
      exact (hU.block _ (lt_of_block hm) (fun h => by have := hSI _ h; omega)).trans hm
    · have hm := (hbV.block _ (lt_of_block X12.out)).trans X12.out
      exact (hU.block _ (lt_of_block hm) (fun h => by have := hSI _ h; omega)).trans hm
    · obtain ⟨a, c, e, h1, -⟩ := (A8.out.later k8).form
      cases e
      refine ints_wrote hU h1 fun b o e h => ?_
      have h2 := R8.out b (by rw [e]; rfl)
      have := hSI _ h
      omega
    · refine ints_wrote hU (I11.out.later k11) fun b o e h => ?_
      have h2 := N11.out b (by rw [e]; rfl)
      have := hSI _ h
      omega
    · have h1 := Ku.sees_rows ((P8.out.later k8).kept fun b hb hlt => hU.block b hlt (fun h => by have h1 := Q8.out b hb; have := hSI _ h; omega))
      exact h1
    · refine S11.out.kept fun b hb hlt => ?_
      rw [hU.block b (Nat.lt_of_lt_of_le hlt k11.size) (fun h => by have := hSI _ h; omega)]
      exact k11.block b hlt
  have hAl : ∀ l ∈ R ++ ps ++ [br], l.length ≤ 8388610 := fun l hl => by
    rcases List.mem_append.1 hl with hl | hl
    · rcases List.mem_append.1 hl with hl | hl
      · have := HL2.out l hl
        omega
      · have := HL5.out l hl
        omega
    · rw [List.mem_singleton.1 hl, HBQ.out]
      omega
  have hKb : K ≤ 17592186043904 := by
    have h1 := HK1.out
    rw [List.length_append, h1] at hK
    simp at hK
    omega
  have hFu := HV15.fu
  have hFl : (es ++ [((-1 : Int), (-2 : Int))]).length = es.length + 1 := by simp
  have hFb : es.length + 1 ≤ 8796093022000 := by omega
  have hB15 : w4.heap.size ≤ w15.heap.size := Nat.le_trans hB14 hb15.size
  have hJ := HJ.out
  have hq := HBQ.out
  have hp := HPQ.out
  have hRl : ∀ l ∈ R, l.length ≤ 4611686018427387904 := fun l hl => by have := HL2.out l hl; omega
  have hpl : ∀ l ∈ ps, l.length ≤ 4611686018427387904 := fun l hl => by have := HL5.out l hl; omega
  have hJb : J ≤ 4611686018427387904 := by have := HJB.out; omega
  have hpb : p ≤ 4611686018427387904 := by have := HPB.out; omega
  have hqb : q ≤ 4611686018427387904 := by omega
  have hlow : ∀ b, (inV (us5 ++ us7 ++ [.slice a7 q c7]) b ∨ b = gf) → w.heap.size ≤ b := fun b hb => by have := hSI b hb; omega
  have HALL := Nu.hid (And.intro hKP (And.intro hAl (And.intro hRl (And.intro hpl hlow))))
  clear hKP hAl hRl hpl hlow hSI hin
  repeat (first | exact tail hr15 hK hKb hB15 HALL.out.2.1 hFu hFl hFb hgf HALL.out.1 hJ hq hp hJb HALL.out.2.2.1 hqb hpb HALL.out.2.2.2.1 hlowV HALL.out.2.2.2.2 | go_step)
set_option maxRecDepth 100000 in
/-- What the walk gives, for every argument and every world. -/
theorem contract (H : Type) (enc : TypeId × Value → H) (W : World) (base : Nat) (args : Array Value) (ds gs : List (DataW H)) (before : List MemPlace)
    (hval : ∀ (j : Nat) t v, Try.f3.params[j]? = some t → args[j]? = some v → Value.okWide Try.prog W .any base t v)
    (hW : DataW.Whole enc Try.prog Try.f3.params.toList Rows.kuraOwnSpec.vars false W args.toList ds gs before)
    (hsz : (DataW.weightsEach Try.prog (Try.f3.params.toList ++ (OpenSpec.ofChange Rows.kuraOwnSpec).bare.plain.varTypes Try.prog) (ds ++ gs)).all (· ≤ reachBytes) = true)
    :
    Calls Try.prog 3 args W fun e W' => ∃ v, e = .returned v ∧ Rows.kuraOwnSpec.post enc Try.prog Try.f3 false true false false W args v W' := by
  have hW' := hW
  obtain ⟨p, q, hA0, hV, rfl, hfz, hnd⟩ := hW
  have hA : DataW.TrodAll enc Try.prog W 0 (fun _ => true) true Try.f3.params.toList args.toList ds p := hA0
  rw [Try.params3] at hA hval hsz
  obtain ⟨v0, vs0, d0, ds0, p0, q0, hargs, rfl, rfl, h0, r0⟩ := trodAll_cons hA
  obtain ⟨rfl, rfl, rfl⟩ := trodAll_nil r0
  obtain rfl : args = #[v0] := by cases args; simp_all
  obtain ⟨rfl, rfl⟩ := trodVars_none hV
  have k0 := h0
  have lt0 : ∀ x ∈ p0, x.block < W.heap.size := by obtain ⟨m, hm⟩ := k0; exact DataW.trod_lt m _ _ _ hm
  obtain ⟨n0, a0, cap0, q0, rfl, x0, w0, u0⟩ := graph_of_trod (j := 0) (hval 0 24 v0 rfl rfl) h0 hsz rfl rfl
  clear hA0
  refine (walk n0 a0 cap0 q0 W x0 w0 u0).mono fun e W' ⟨he, bel⟩ => ?_
  subst he
  exact ⟨_, rfl, _, _, _, [], _, [], hW', trodAll_mk1 (shut_bool Try.underlying4 _), (trodAll_cons_mk (Below.trod laidOut (by kernel_rfl) (of_decide_eq_true (by kernel_rfl)) k0 bel lt0) trodAll_mk0), rfl, bel.frame _, fun h => by cases h⟩

theorem laid_met (os : Os) : laidMet Try.prog Rows.kuraOwnRow.laid ((settled os).forCall (fun _ _ => 0) ⟨#[], #[.agg #[.int .i64 0, .slice none 0 0]], []⟩).memory :=
  laidMet_of_run' 100 (by kernel_rfl) (by kernel_rfl)
theorem reads (os : Os) {H : Type} (enc : TypeId × Value → H) : ∃ places, DataW.whole enc Try.prog ((settled os).forCall (fun _ _ => 0) ⟨#[], #[.agg #[.int .i64 0, .slice none 0 0]], []⟩).memory Try.f3.params.toList Rows.kuraOwnSpec.vars false (#[.agg #[.int .i64 0, .slice none 0 0]] : Array Value).toList 8 = some ([.agg [.lit (.int .i64 0), .nil]], [], places) :=
  ⟨[], by kernel_rfl⟩

set_option maxRecDepth 100000 in
theorem lifted (os : Os) (started : os.Started) (H : Type) (enc : TypeId × Value → H) (F : Stop.Interp) :
    ReturnsInHanded {} Try.checked os 3 .any ((OpenSpec.ofChange Rows.kuraOwnSpec).preRow enc Try.prog Try.f3 Rows.kuraOwnRow.domain false Rows.kuraOwnRow.laid) (((OpenSpec.ofChange Rows.kuraOwnSpec).at F).post enc Try.prog Try.f3 false true false false) := by
  obtain ⟨places, hx⟩ := reads os enc
  refine returnsInHanded_of_row (C := Try.checked) (s := (OpenSpec.ofChange Rows.kuraOwnSpec)) own started (by kernel_rfl) Try.func3
    (witness_row_at (enc := enc) (C := Try.checked) false (settled os) #[.agg #[.int .i64 0, .slice none 0 0]] rfl (by kernel_rfl) (by kernel_rfl) (by kernel_rfl)
      (OpenSpec.preRow_of_cond 8 hx (by kernel_rfl) (fun k hk => by cases hk) (by kernel_rfl) (laid_met os))) ?_
  intro W base args ds gs before hval hW _ _ hsz _ _ _
  exact contract H enc W base args ds gs before hval hW hsz 

theorem said : Rows.KuraOwnSaid :=
  OpenClaim.holds_of_cond 3 Try.f3 rfl rfl rfl rfl rfl rfl rfl ⟨rfl, rfl, rfl, rfl, rfl⟩ rfl rfl rfl rfl rfl (by kernel_rfl) Try.func3 (by kernel_rfl)
    (of_decide_eq_true (by kernel_rfl)) (by unfold Func.isWrapper; first | (rw [if_pos (by decide +kernel)]; kernel_rfl) | (rw [if_neg (by decide +kernel)]; exact ⟨rfl, rfl⟩))
    (fun os started H enc _ F => by rw [OpenClaim.pre_eq_preRow]; exact lifted os started H enc F)

end lawKO

theorem kuraOwn_holds : Rows.KuraOwnSaid := lawKO.said

#print axioms kuraOwn_holds
end Go.Proofs.Ytdhaaodalchpkab
