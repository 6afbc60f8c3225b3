/-
  Proved: for every graph the law BlocksWhole answers true, and the graph reads afterwards as before. No condition.
-/
import Derived.Test.YtalfpbalekbinaaMgW0
import Derived.Test.YtalfpbalekbinaaMg41
import Derived.Test.YtalfpbalekbinaaMg42
namespace Go.Proofs.Ytalfpbalekbinaa
open Go.ChangeShapes Go.WideShapes Go.ChangeAt Go.RowKit

namespace Bl
/-- What is answered of a block's graph. -/
theorem whole9 {n : Nat} {es : List (Int × Int)} {s : Df.St} (hv : Si.Val n es) (h : Df.VF n es s) {kk : Nat} (hk : kk < ct9 es) : ∃ E L, bl9 n es (kk : Int) = (E, L, 0) ∧ E.length ≤ es.length ∧ L.length ≤ n ∧ Si.valid (L.length : Int) E = true ∧ (∃ O, of9 (L.length : Int) E = (O, 1, 0)) ∧ cu9 (L.length : Int) E = ([], 0) ∧ (∃ B, bs9 (L.length : Int) E = (B, 0) ∧ (B.length ≠ 0 ↔ E.length = 1)) ∧
    E.length = Co.cntTo (fun e => decide (no9 es e = kk)) es.length ∧ (∀ e p, es[e]? = some p → no9 es e = kk → ∃ i j : Nat, E[Co.cntTo (fun e => decide (no9 es e = kk)) e]? = some ((i : Int), (j : Int)) ∧ L[i]? = some p.1 ∧ L[j]? = some p.2) := by
  have hva := Si.valid_iff.2 hv
  have hb := bl9_t hva hk
  have hvb : vb9 n es (kk : Int) = vsTo es (no9 es) (kk : Int) n := by unfold vb9; rw [Int.toNat_natCast]
  rw [hvb] at hb
  obtain ⟨h0, h1⟩ := bk_one hv h hk
  have hval := bk_val (f := no9 es) (kk := kk) hv
  have hv2 := Si.valid_iff.2 hval
  obtain ⟨o1, o2, o3⟩ := one_block h0 h1 ((vsTo es (no9 es) (kk : Int) n).length : Int).toNat
  refine ⟨_, _, hb, bkTo_length _ _ _, vsTo_length _ _, hv2, ⟨_, by rw [of9_t hv2, o1]⟩, by rw [cu9_t hv2, o2], ⟨_, bs9_t hv2, o3⟩, ?_, fun e p hp hf => ?_⟩
  · unfold bkTo
    rw [List.length_map, filter_len]
  · obtain ⟨a1, a2⟩ := ends_in hv hp hf
    obtain ⟨i, hi, ei⟩ := place_mem a1
    obtain ⟨j, hj, ej⟩ := place_mem a2
    refine ⟨i, j, ?_, hi, hj⟩
    rw [bk_of hp hf, nmE, ei, ej]
end Bl

namespace lawWhole

theorem of_vf {n : Nat} {a : Option Addr} {c : Nat} {es : List (Int × Int)} {W : World} (he : EdgesAt W a es) (hv : Si.Val n es) : Calls Try.prog 9 #[.agg #[.int .i64 (n : Int), .slice a es.length c]] W fun e w' => ∃ g, e = .returned (.tuple #[.slice (some ⟨g, 0, none⟩) es.length es.length, .int .i64 (Bl.ct9 es : Int), .int .i64 0]) ∧ IntsAt w' (some ⟨g, 0, none⟩) (Bl.nums es.length (Bl.no9 es)) ∧ (∃ s, Df.VF n es s) ∧ Below W.heap.size W w' := (pof9_yes n a c es W he hv).mono (by
  rintro e w' ⟨s, go, hvf, rfl, h2, h3, h4⟩
  obtain ⟨k1, k2⟩ := Bl.no9_of (fun e he => Bl.m9_mB hv hvf (e := e) he)
  rw [Bl.nums_congr k1] at h2
  exact ⟨go, by rw [k2], h2.at, ⟨s, hvf⟩, h4⟩)

/-- The graph, its numbers, one of its blocks. -/
structure Wh9 (w : World) (n : Int) (ao : Option Addr) (ca : Nat) (es : List (Int × Int)) (g3 : Nat) (L : List Int) (a6 : Option Addr) (E : List (Int × Int)) (ea : Option Addr) (ec bx : Nat) (W : World) : Prop where
  g : Gr9 w n ao ca es W
  num : IntsAt W (some ⟨g3, 0, none⟩) (Bl.nums es.length (Bl.no9 es))
  nam : IntsAt W a6 L
  edg : EdgesAt W ea E
  box : W.heap[bx]? = some (.cells #[.int .i64 (L.length : Int), .slice ea E.length ec] 24 (0, 0))
theorem Wh9.later {w : World} {n : Int} {ao : Option Addr} {ca : Nat} {es : List (Int × Int)} {g3 : Nat} {L : List Int} {a6 : Option Addr} {E : List (Int × Int)} {ea : Option Addr} {ec bx : Nat} {W W' : World} (h : Wh9 w n ao ca es g3 L a6 E ea ec bx W) (hb : Below W.heap.size W W') : Wh9 w n ao ca es g3 L a6 E ea ec bx W' :=
  ⟨h.g.later hb, h.num.later hb, h.nam.later hb, h.edg.later hb, (hb.block _ (lt_of_block h.box)).trans h.box⟩
theorem Wh9.cells {w : World} {n : Int} {ao : Option Addr} {ca : Nat} {es : List (Int × Int)} {g3 : Nat} {L : List Int} {a6 : Option Addr} {E : List (Int × Int)} {ea : Option Addr} {ec bx : Nat} {W : World} (h : Wh9 w n ao ca es g3 L a6 E ea ec bx W) : W.cell? ⟨bx, 0, none⟩ = some (.int .i64 (L.length : Int)) ∧ W.cell? ⟨bx, 1, none⟩ = some (.slice ea E.length ec) := by
  obtain ⟨x0, x1, -⟩ := pair_cells h.box
  exact ⟨x0, x1⟩

set_option maxRecDepth 100000 in
set_option maxHeartbeats 16000000 in
theorem walk (n : Int) (ao : Option Addr) (ca : Nat) (es : List (Int × Int)) (w : World) (_ : -9223372036854775808 ≤ n ∧ n ≤ 9223372036854775807) (hq : PairsIn w ao es.length ca es) (hle : es.length * 16 ≤ 140737488351232) :
    Calls Try.prog 6 #[.agg #[.int .i64 n, .slice ao es.length ca]] w fun e w' => e = .returned (.bool true) ∧ Below w.heap.size w w' := by
  have hG0 : Gr9 w n ao ca es _ := .start hq.hat
  have HG0 := Nu.hid hG0
  have hle' : es.length * 16 ≤ 140737488355328 := by omega
  have HRV : Hid (∀ W, EdgesAt W ao es → Calls Try.prog 20 #[.agg #[.int .i64 n, .slice ao es.length ca]] W fun e w' => e = .returned (.bool (Si.valid n es)) ∧ Below W.heap.size W w') := fun W h => rvalid_any n ao ca es W h (by omega)
  have HBK : Hid (∀ a c k W, EdgesAt W a es → Calls Try.prog 17 #[.agg #[.int .i64 n, .slice a es.length c], .int .i64 k] W (BkS (Bl.bl9 n es k) W)) := fun a c k W h => pblock_is n a c es W h (by omega) k
  cases hv : Si.valid n es with
  | false =>
    have HO : Hid (∀ a c W, EdgesAt W a es → Calls Try.prog 9 #[.agg #[.int .i64 n, .slice a es.length c]] W (OfS (Bl.of9 n es) W)) := fun a c W h => pof_is n a c es W h (by omega)
    rw [Bl.of9_f hv] at HO
    rw [hv] at HRV
    clear hq hG0 hv
    go_enter Try.func6, Try.ntmps6
    go_wp2_with (go_at_call 8; refine (wakes_any _).mono ?_; rintro e w1 ⟨rfl, hb⟩; refine Hid.out ?_)
    refine Nu.hid ?_
    have G1 := Nu.hid (HG0.out.later hb)
    obtain ⟨x0, x1⟩ := G1.out.cells
    clear hb HG0
    go_wp2_with (first
      | (go_at_call 10; refine (G1.out.copy hle').mono ?_; rintro e w2 ⟨a2, c2, rfl, he2, hb2⟩; have HE := Nu.hid he2; have G2 := Nu.hid (G1.out.later hb2); clear he2 hb2)
      | (go_at_call 9; refine (HO.out _ _ _ HE.out).mono ?_; rintro e w3 ⟨a3, c3, rfl, ho, hb3⟩; have G3 := Nu.hid (G2.out.later hb3); clear ho hb3; refine Hid.out ?_))
    refine Nu.hid ?_
    try dsimp only
    clear x0 x1 HE G1 G2
    obtain ⟨x0, x1⟩ := G3.out.cells
    go_wp2_with (go_at_call 20; refine (HRV.out _ G3.out.edges).mono ?_; rintro e w4 ⟨rfl, hb4⟩; have HB := Nu.hid (G3.out.later hb4).low; clear hb4)
    go_ret
    exact ⟨rfl, HB.out⟩
  | true =>
    have hval := Si.valid_iff.1 hv
    have hfew := hval.few
    have hhi := hval.hi
    obtain ⟨n, rfl⟩ : ∃ m : Nat, n = (m : Int) := ⟨n.toNat, by have := hval.lo; omega⟩
    rw [hv] at HRV
    have HVA := Nu.hid hv
    have HVAL := Nu.hid hval
    have hctl : Bl.ct9 es ≤ es.length := Bl.cntB_le _ _
    clear hq hG0 hv hval
    go_enter Try.func6, Try.ntmps6
    go_wp2_with (go_at_call 8; refine (wakes_any _).mono ?_; rintro e w1 ⟨rfl, hb⟩; refine Hid.out ?_)
    refine Nu.hid ?_
    have G1 := Nu.hid (HG0.out.later hb)
    obtain ⟨x0, x1⟩ := G1.out.cells
    clear hb HG0
    go_wp2_with (first
      | (go_at_call 10; refine (G1.out.copy hle').mono ?_; rintro e w2 ⟨a2, c2, rfl, he2, hb2⟩; have HE := Nu.hid he2; have G2 := Nu.hid (G1.out.later hb2); clear he2 hb2)
      | (go_at_call 9; refine (of_vf HE.out HVAL.out).mono ?_; rintro e w3 ⟨g3, rfl, hi3, ⟨s, hvf⟩, hb3⟩; have HI3 := Nu.hid hi3; have HVF := Nu.hid hvf; have G3 := Nu.hid (G2.out.later hb3); clear hi3 hvf hb3; refine Hid.out ?_))
    refine Nu.hid ?_
    clear x0 x1 HE G1 G2
    obtain ⟨x0, x1⟩ := G3.out.cells
    obtain ⟨C, hC⟩ : ∃ C, Bl.ct9 es = C := ⟨_, rfl⟩
    rw [hC] at hctl ⊢
    have HCC := Nu.hid hC
    clear hC
    go_wp2_with (go_at_call 20; refine (HRV.out _ G3.out.edges).mono ?_; rintro e w4 ⟨rfl, hb4⟩; refine Hid.out ?_)
    refine Nu.hid ?_
    have G4 := Nu.hid (G3.out.later hb4)
    have HI4 := Nu.hid (HI3.out.later hb4)
    clear x0 x1 hb4 G3 HI3
    go_wp2
    go_loopw [6] (fun cv wr => ∃ k : Nat, k ≤ C ∧ cv = .int .i64 (k : Int) ∧ Gr9 w n ao ca es wr ∧ IntsAt wr (some ⟨g3, 0, none⟩) (Bl.nums es.length (Bl.no9 es))) (fun cv _ => C - (intOf cv).toNat)
    case atStart => exact ⟨0, Nat.zero_le _, rfl, G4.out, HI4.out⟩
    case round =>
      clear G4 HI4
      obtain ⟨k, hk, rfl, hG, hI⟩ := hrel
      have G4 := Nu.hid hG
      have HI4 := Nu.hid hI
      obtain ⟨x0, x1⟩ := hG.cells
      clear hG hI
      by_cases hkc : k < C
      · have hlti : (k : Int) < (C : Int) := by omega
        obtain ⟨E, L, hbl, hEl, hLl, hV2, ⟨O, hO⟩, hCu, ⟨B, hBs, hB1⟩, hEn, hat⟩ := Bl.whole9 HVAL.out HVF.out (kk := k) (by rw [HCC.out]; exact hkc)
        have HB5 : Hid (∀ a c W, EdgesAt W a es → Calls Try.prog 17 #[.agg #[.int .i64 (n : Int), .slice a es.length c], .int .i64 (k : Int)] W (BkS (E, L, 0) W)) := fun a c W h => by
          have := HBK.out a c (k : Int) W h
          rw [hbl] at this
          exact this
        have HhV : Hid (∀ a c W, EdgesAt W a E → Calls Try.prog 20 #[.agg #[.int .i64 (L.length : Int), .slice a E.length c]] W fun e w' => e = .returned (.bool true) ∧ Below W.heap.size W w') := fun a c W h => by
          have := rvalid_any (L.length : Int) a c E W h (by omega)
          rw [hV2] at this
          exact this
        have HhC : Hid (∀ a c W, EdgesAt W a E → Calls Try.prog 10 #[.agg #[.int .i64 (L.length : Int), .slice a E.length c]] W fun e w' => ∃ a' c', e = .returned (.agg #[.int .i64 (L.length : Int), .slice a' E.length c']) ∧ EdgesAt w' a' E ∧ Below W.heap.size W w') := fun a c W h => (rcopy_any (L.length : Int) a c E W h (by omega)).mono (by
          rintro e w' ⟨v, rfl, h1, h2⟩
          obtain ⟨a, c, rfl, _, _, h3, _⟩ := h1.form
          exact ⟨a, c, rfl, h3, h2⟩)
        have HhO : Hid (∀ a c W, EdgesAt W a E → Calls Try.prog 9 #[.agg #[.int .i64 (L.length : Int), .slice a E.length c]] W (OfS (O, 1, 0) W)) := fun a c W h => by
          have := pof_is (L.length : Int) a c E W h (by omega)
          rw [hO] at this
          exact this
        have HhK : Hid (∀ a c W, EdgesAt W a E → Calls Try.prog 13 #[.agg #[.int .i64 (L.length : Int), .slice a E.length c]] W (LiS ([], 0) W)) := fun a c W h => by
          have := pcuts_is (L.length : Int) a c E W h (by omega)
          rw [hCu] at this
          exact this
        have HhB : Hid (∀ a c W, EdgesAt W a E → Calls Try.prog 15 #[.agg #[.int .i64 (L.length : Int), .slice a E.length c]] W (LiS (B, 0) W)) := fun a c W h => by
          have := pbridges_is (L.length : Int) a c E W h (by omega)
          rw [hBs] at this
          exact this
        have HAT := Nu.hid hat
        have HEN := Nu.hid hEn
        have hBb : (((B.length : Int) != 0) != ((E.length : Int) == 1)) = false := by
          by_cases e1 : E.length = 1
          · have := hB1.2 e1
            simp [e1]
            exact fun h => this (by simp [h])
          · have h0 : B.length = 0 := by
              by_cases h0 : B.length = 0
              · exact h0
              · exact absurd (hB1.1 h0) e1
            simp [h0]
            omega
        clear hbl hV2 hO hCu hBs hat hEn hB1
        go_wp2_with (first
          | (go_at_call 10; refine (G4.out.copy hle').mono ?_; rintro e w5 ⟨a5, c5, rfl, he5, hb5⟩; have HE := Nu.hid he5; have G5 := Nu.hid (G4.out.later hb5); have HI5 := Nu.hid (HI4.out.later hb5); clear he5 hb5)
          | (go_at_call 17; refine (HB5.out _ _ _ HE.out).mono ?_; rintro e w6 ⟨ea, ec, a6, c6, rfl, hoe, ho, -, hb6⟩; have HL := Nu.hid ho.at; have HOE := Nu.hid hoe; have G6 := Nu.hid (G5.out.later hb6); have HI6 := Nu.hid (HI5.out.later hb6); clear ho hoe hb6; refine Hid.out ?_))
        refine Nu.hid ?_
        try dsimp only at HL
        try dsimp only at HOE
        try dsimp only
        clear x0 x1 HE G4 G5 HI4 HI5
        obtain ⟨w7, hw7⟩ : ∃ w7, w7 = w6.alloc (.cells #[.int .i64 (L.length : Int), .slice ea E.length ec] 24) := ⟨_, rfl⟩
        have hb7 : Below w6.heap.size w6 w7 := by rw [hw7]; exact (Below.refl _ _).alloc (Nat.le_refl _) _
        have hbx : w7.heap[w6.heap.size]? = some (.cells #[.int .i64 (L.length : Int), .slice ea E.length ec] 24 (0, 0)) := by rw [hw7]; exact heap_alloc_new w6 _
        have G7 := Nu.hid (G6.out.later hb7)
        have HI7 := Nu.hid (HI6.out.later hb7)
        have HL7 := Nu.hid (HL.out.later hb7)
        have HE7 : Hid (EdgesAt w7 ea E) := by
          obtain ⟨a, c, e1, _, _, h1, _⟩ := HOE.out.form
          cases e1
          exact h1.later hb7
        have HBX := Nu.hid hbx
        obtain ⟨y0, y1, yf⟩ := pair_cells hbx
        rw [hw7] at y0 y1
        have HW7 := Nu.hid hw7
        obtain ⟨bx, hbxe⟩ : ∃ bx, w6.heap.size = bx := ⟨_, rfl⟩
        rw [hbxe] at HBX
        have HBXE := Nu.hid hbxe
        clear hb7 hbx hw7 HL HOE G6 HI6 hbxe
        go_wp2_with (go_at_call 20; rw [← HW7.out]; refine (HhV.out _ _ _ HE7.out).mono ?_; rintro e w8 ⟨rfl, hb8⟩; refine Hid.out ?_)
        refine Nu.hid ?_
        have H8 : Hid (Wh9 w n ao ca es g3 L a6 E ea ec bx w8) := Wh9.later ⟨G7.out, HI7.out, HL7.out, HE7.out, HBX.out⟩ hb8
        rw [HBXE.out]
        clear hb8 y0 y1 yf G7 HI7 HL7 HE7 HBX HBXE HhV
        obtain ⟨y0, y1⟩ := H8.out.cells
        go_wp2_with (first
          | (go_at_call 10; refine (HhC.out _ _ _ H8.out.edg).mono ?_; rintro e w9 ⟨a9, c9, rfl, he9, hb9⟩; have HE := Nu.hid he9; have H9 := Nu.hid (H8.out.later hb9); clear he9 hb9)
          | (go_at_call 9; refine (HhO.out _ _ _ HE.out).mono ?_; rintro e w10 ⟨a10, c10, rfl, ho, hb10⟩; have H10 := Nu.hid (H9.out.later hb10); clear ho hb10; refine Hid.out ?_))
        refine Nu.hid ?_
        try dsimp only
        clear y0 y1 HE H8 H9
        obtain ⟨y0, y1⟩ := H10.out.cells
        go_wp2_with (first
          | (go_at_call 10; refine (HhC.out _ _ _ H10.out.edg).mono ?_; rintro e w11 ⟨a11, c11, rfl, he11, hb11⟩; have HE := Nu.hid he11; have H11 := Nu.hid (H10.out.later hb11); clear he11 hb11)
          | (go_at_call 13; refine (HhK.out _ _ _ HE.out).mono ?_; rintro e w12 ⟨a12, c12, rfl, ho, hb12⟩; have H12 := Nu.hid (H11.out.later hb12); clear ho hb12; refine Hid.out ?_))
        refine Nu.hid ?_
        try dsimp only
        clear y0 y1 HE H10 H11
        obtain ⟨y0, y1⟩ := H12.out.cells
        go_wp2_with (first
          | (go_at_call 10; refine (HhC.out _ _ _ H12.out.edg).mono ?_; rintro e w13 ⟨a13, c13, rfl, he13, hb13⟩; have HE := Nu.hid he13; have H13 := Nu.hid (H12.out.later hb13); clear he13 hb13)
          | (go_at_call 15; refine (HhB.out _ _ _ HE.out).mono ?_; rintro e w14 ⟨a14, c14, rfl, ho, hb14⟩; have H14 := Nu.hid (H13.out.later hb14); clear ho hb14; refine Hid.out ?_))
        refine Nu.hid ?_
        try dsimp only
        clear y0 y1 HE H12 H13
        obtain ⟨y0, y1⟩ := H14.out.cells
        obtain ⟨bb, c1⟩ : ∃ bb, ((E.length : Int) == 1) = bb := ⟨_, rfl⟩
        have c2 : ((B.length : Int) != 0) = bb := by
          rw [c1] at hBb
          cases h : ((B.length : Int) != 0) <;> cases bb <;> rw [h] at hBb <;> first | rfl | cases hBb
        clear hBb
        go_wp2
        clear y0 y1
        go_loopw [17, 18] (fun av cv W => ∃ i : Nat, i ≤ es.length ∧ cv = .int .i64 (i : Int) ∧ av = .int .i64 (Co.cntTo (fun e => decide (Bl.no9 es e = k)) i : Int) ∧ Below w14.heap.size w14 W) (fun _ cv _ => es.length - (intOf cv).toNat)
        case atStart => exact ⟨0, Nat.zero_le _, rfl, rfl, Below.refl _ _⟩
        case round =>
          rename_i W hrel
          obtain ⟨i, hil, rfl, rfl, hW⟩ := hrel
          have H := H14.out.later hW
          have HW := Nu.hid hW
          have hAl := Co.cntTo_le (fun e => decide (Bl.no9 es e = k)) i
          obtain ⟨y0, y1⟩ := H.cells
          obtain ⟨x0, x1⟩ := H.g.cells
          by_cases hin : i < es.length
          · have hili : (i : Int) < (es.length : Int) := by omega
            have hi0 : (0 : Int) ≤ (i : Int) := by omega
            obtain ⟨⟨p1, p2⟩, hq⟩ : ∃ q, es[i]? = some q := ⟨_, List.getElem?_eq_getElem hin⟩
            obtain ⟨nb, no', eno, d0⟩ := H.num i _ (Bl.nums_at (f := Bl.no9 es) hin)
            cases eno
            rw [Nat.zero_add] at d0
            have HC1 : Hid (Co.cntTo (fun e => decide (Bl.no9 es e = k)) (i + 1) = Co.cntTo (fun e => decide (Bl.no9 es e = k)) i + (if decide (Bl.no9 es i = k) = true then 1 else 0)) := rfl
            by_cases hf : Bl.no9 es i = k
            · obtain ⟨pi, pj, hE, hL1, hL2⟩ := HAT.out i (p1, p2) hq hf
              have hAE := (List.getElem?_eq_some_iff.1 hE).1
              have hpi := (List.getElem?_eq_some_iff.1 hL1).1
              have hpj := (List.getElem?_eq_some_iff.1 hL2).1
              obtain ⟨eb, eo, eea, e0, e1⟩ := H.edg _ _ hE
              obtain ⟨mb, mo, ea6, f0⟩ := H.nam pi p1 hL1
              obtain ⟨mb', mo', ea6', f1⟩ := H.nam pj p2 hL2
              rw [ea6] at ea6'
              obtain ⟨rfl, rfl⟩ : mb = mb' ∧ mo = mo' := by
                have := Option.some.inj ea6'
                injection this with a b
                exact ⟨a, b⟩
              obtain ⟨gb, go, eao, -, -⟩ := H.g.edges i _ hq
              subst eao
              obtain ⟨c0, c1'⟩ := H.g.edges.two hq
              subst eea ea6
              rw [if_pos (by simpa using hf)] at HC1
              rw [hf] at d0
              obtain ⟨A, hA⟩ : ∃ A, Co.cntTo (fun e => decide (Bl.no9 es e = k)) i = A := ⟨_, rfl⟩
              rw [hA] at HC1 hAE hAl e0 e1 ⊢
              have j0 : (0 : Int) ≤ (A : Int) := by omega
              have j1 : (A : Int) < (E.length : Int) := by omega
              have j2 : ¬ (E.length : Int) ≤ (A : Int) := by omega
              have j3 : (0 : Int) ≤ (pi : Int) := by omega
              have j4 : (pi : Int) < (L.length : Int) := by omega
              have j5 : (0 : Int) ≤ (pj : Int) := by omega
              have j6 : (pj : Int) < (L.length : Int) := by omega
              clear hE hL1 hL2 hf hq hA H hW
              go_wp2_with fail
              go_quiet (fail)
              go_wp2
              go_roundw
              case rel => exact ⟨i + 1, by omega, by go_num, by rw [HC1.out]; go_num, below_drewN HW.out _⟩
              case measure => simp [intOf]; omega
            · rw [if_neg (by simpa using hf)] at HC1
              have hd : ((Bl.no9 es i : Int) != (k : Int)) = true := by simp; omega
              clear hf hq H hW
              go_wp2
              go_roundw
              case rel => exact ⟨i + 1, by omega, by go_num, by rw [HC1.out]; rfl, HW.out⟩
              case measure => simp [intOf]; omega
          · have hili : ¬ (i : Int) < (es.length : Int) := by omega
            obtain rfl : i = es.length := by omega
            have HG := Nu.hid H.g
            have HNU := Nu.hid H.num
            rw [← HEN.out]
            clear H hW
            go_wp2
            go_roundw
            case rel => exact ⟨k + 1, by omega, by go_num, HG.out, HNU.out⟩
            case measure => simp [intOf]; omega
      · have hlti : ¬ (k : Int) < (C : Int) := by omega
        obtain rfl : k = C := by omega
        have HB1 : Hid (∀ a c W, EdgesAt W a es → Calls Try.prog 17 #[.agg #[.int .i64 (n : Int), .slice a es.length c], .int .i64 (-1)] W (BkS ([], [], 2) W)) := fun a c W h => by
          have := HBK.out a c (-1) W h
          rw [Bl.bl9_o HVA.out (.inl (by decide))] at this
          exact this
        have HB2 : Hid (∀ a c W, EdgesAt W a es → Calls Try.prog 17 #[.agg #[.int .i64 (n : Int), .slice a es.length c], .int .i64 (k : Int)] W (BkS ([], [], 2) W)) := fun a c W h => by
          have := HBK.out a c (k : Int) W h
          rw [Bl.bl9_o HVA.out (.inr (by rw [HCC.out]; omega))] at this
          exact this
        go_wp2_with (first
          | (go_at_call 10; refine (G4.out.copy hle').mono ?_; rintro e w5 ⟨a5, c5, rfl, he5, hb5⟩; have HE := Nu.hid he5; have G5 := Nu.hid (G4.out.later hb5); clear he5 hb5)
          | (go_at_call 17; refine (HB1.out _ _ _ HE.out).mono ?_; rintro e w6 ⟨ea, ec, a6, c6, rfl, -, -, -, hb6⟩; have G6 := Nu.hid (G5.out.later hb6); clear hb6; refine Hid.out ?_))
        refine Nu.hid ?_
        try dsimp only
        clear x0 x1 HE G4 G5
        obtain ⟨w7, hw7⟩ : ∃ w7, w7 = w6.alloc (.cells #[.int .i64 (([] : List Int).length : Int), .slice ea ([] : List (Int × Int)).length ec] 24) := ⟨_, rfl⟩
        have hb7 : Below w6.heap.size w6 w7 := by rw [hw7]; exact (Below.refl _ _).alloc (Nat.le_refl _) _
        have G7 := Nu.hid (G6.out.later hb7)
        obtain ⟨x0, x1⟩ := G7.out.cells
        rw [hw7] at x0 x1
        have HW7 := Nu.hid hw7
        have HCP := Nu.hid (G7.out.copy hle')
        clear hb7 hw7 G6
        try simp only [List.length_nil, Int.cast_ofNat_Int] at HW7 x0 x1
        go_wp2_with (go_at_call 10; rw [← HW7.out]; refine HCP.out.mono ?_; rintro e w8 ⟨a8, c8, rfl, he8, hb8⟩; have HE := Nu.hid he8; have G8 := Nu.hid (G7.out.later hb8); clear he8 hb8; refine Hid.out ?_)
        refine Nu.hid ?_
        go_wp2_with (go_at_call 17; refine (HB2.out _ _ _ HE.out).mono ?_; rintro e w9 ⟨ea9, ec9, a9, c9, rfl, -, -, -, hb9⟩; have HLOW := Nu.hid ((G8.out.later hb9).low.alloc (G8.out.later hb9).low.size (.cells #[.int .i64 0, .slice ea9 0 ec9] 24)); clear hb9)
        go_ret
        exact ⟨rfl, HLOW.out⟩
set_option maxRecDepth 100000 in
/-- What the walk gives, for every argument and every world. -/
theorem contract (H : Type) (enc : TypeId × Value → H) (W : World) (base : Nat) (args : Array Value) (ds gs : List (DataW H)) (before : List MemPlace)
    (hval : ∀ (j : Nat) t v, Try.f6.params[j]? = some t → args[j]? = some v → Value.okWide Try.prog W .any base t v)
    (hW : DataW.Whole enc Try.prog Try.f6.params.toList Rows.blocksWholeSpec.vars false W args.toList ds gs before)
    (hsz : (DataW.weightsEach Try.prog (Try.f6.params.toList ++ (OpenSpec.ofChange Rows.blocksWholeSpec).bare.plain.varTypes Try.prog) (ds ++ gs)).all (· ≤ reachBytes) = true)
    :
    Calls Try.prog 6 args W fun e W' => ∃ v, e = .returned v ∧ Rows.blocksWholeSpec.post enc Try.prog Try.f6 false true false false W args v W' := by
  have hW' := hW
  obtain ⟨p, q, hA0, hV, rfl, hfz, hnd⟩ := hW
  have hA : DataW.TrodAll enc Try.prog W 0 (fun _ => true) true Try.f6.params.toList args.toList ds p := hA0
  rw [Try.params6] at hA hval hsz
  obtain ⟨v0, vs0, d0, ds0, p0, q0, hargs, rfl, rfl, h0, r0⟩ := trodAll_cons hA
  obtain ⟨rfl, rfl, rfl⟩ := trodAll_nil r0
  obtain rfl : args = #[v0] := by cases args; simp_all
  obtain ⟨rfl, rfl⟩ := trodVars_none hV
  have k0 := h0
  have lt0 : ∀ x ∈ p0, x.block < W.heap.size := by obtain ⟨m, hm⟩ := k0; exact DataW.trod_lt m _ _ _ hm
  obtain ⟨n0, a0, cap0, q0, rfl, x0, w0, u0⟩ := graph_of_trod (j := 0) (hval 0 24 v0 rfl rfl) h0 hsz rfl rfl
  clear hA0
  refine (walk n0 a0 cap0 q0 W x0 w0 u0).mono fun e W' ⟨he, bel⟩ => ?_
  subst he
  exact ⟨_, rfl, _, _, _, [], _, [], hW', trodAll_mk1 (shut_bool Try.underlying4 _), (trodAll_cons_mk (Below.trod laidOut (by kernel_rfl) (of_decide_eq_true (by kernel_rfl)) k0 bel lt0) trodAll_mk0), rfl, bel.frame _, fun h => by cases h⟩

theorem laid_met (os : Os) : laidMet Try.prog Rows.blocksWholeRow.laid ((settled os).forCall (fun _ _ => 0) ⟨#[], #[.agg #[.int .i64 0, .slice none 0 0]], []⟩).memory :=
  laidMet_of_run' 100 (by kernel_rfl) (by kernel_rfl)
theorem reads (os : Os) {H : Type} (enc : TypeId × Value → H) : ∃ places, DataW.whole enc Try.prog ((settled os).forCall (fun _ _ => 0) ⟨#[], #[.agg #[.int .i64 0, .slice none 0 0]], []⟩).memory Try.f6.params.toList Rows.blocksWholeSpec.vars false (#[.agg #[.int .i64 0, .slice none 0 0]] : Array Value).toList 8 = some ([.agg [.lit (.int .i64 0), .nil]], [], places) :=
  ⟨[], by kernel_rfl⟩

set_option maxRecDepth 100000 in
theorem lifted (os : Os) (started : os.Started) (H : Type) (enc : TypeId × Value → H) (F : Stop.Interp) :
    ReturnsInHanded {} Try.checked os 6 .any ((OpenSpec.ofChange Rows.blocksWholeSpec).preRow enc Try.prog Try.f6 Rows.blocksWholeRow.domain false Rows.blocksWholeRow.laid) (((OpenSpec.ofChange Rows.blocksWholeSpec).at F).post enc Try.prog Try.f6 false true false false) := by
  obtain ⟨places, hx⟩ := reads os enc
  refine returnsInHanded_of_row (C := Try.checked) (s := (OpenSpec.ofChange Rows.blocksWholeSpec)) own started (by kernel_rfl) Try.func6
    (witness_row_at (enc := enc) (C := Try.checked) false (settled os) #[.agg #[.int .i64 0, .slice none 0 0]] rfl (by kernel_rfl) (by kernel_rfl) (by kernel_rfl)
      (OpenSpec.preRow_of_cond 8 hx (by kernel_rfl) (fun k hk => by cases hk) (by kernel_rfl) (laid_met os))) ?_
  intro W base args ds gs before hval hW _ _ hsz _ _ _
  exact contract H enc W base args ds gs before hval hW hsz 

theorem said : Rows.BlocksWholeSaid :=
  OpenClaim.holds_of_cond 6 Try.f6 rfl rfl rfl rfl rfl rfl rfl ⟨rfl, rfl, rfl, rfl, rfl⟩ rfl rfl rfl rfl rfl (by kernel_rfl) Try.func6 (by kernel_rfl)
    (of_decide_eq_true (by kernel_rfl)) (by unfold Func.isWrapper; first | (rw [if_pos (by decide +kernel)]; kernel_rfl) | (rw [if_neg (by decide +kernel)]; exact ⟨rfl, rfl⟩))
    (fun os started H enc _ F => by rw [OpenClaim.pre_eq_preRow]; exact lifted os started H enc F)

end lawWhole

theorem blocksWhole_holds : Rows.BlocksWholeSaid := lawWhole.said

#print axioms blocksWhole_holds
end Go.Proofs.Ytalfpbalekbinaa
