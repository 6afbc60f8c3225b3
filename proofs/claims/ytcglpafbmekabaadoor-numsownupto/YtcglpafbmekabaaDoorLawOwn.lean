/-
  Proved: for every list of bytes and every list of numbers that hold together at most 1048576 values, the law NumsOwn answers true, and both lists read afterwards as before.
-/
import Derived.Test.YtcglpafbmekabaaDoorBaseInts
import Derived.Test.YtcglpafbmekabaaDoorSameInts
import Derived.Test.YtcglpafbmekabaaDoorPlain6
import Derived.Maps.AppendAt
import Derived.Deep.QuietTactic
import Derived.BigQuiet
namespace Go.Proofs.YtcglpafbmekabaaDoor
open Go.ChangeShapes Go.WideShapes Go.ChangeAt Go.RowKit

namespace lawOwn

theorem Tryd.infoU8 : (Tryd.prog.info? 5).map (fun i => (i.zero, i.size, i.bytes)) = some (some (.int .u8 0), 1, 1) := by kernel_rfl

theorem add0 (g j : Nat) : ((⟨g, 0, none⟩ : Addr).add j) = ⟨g, j, none⟩ := by
  by_cases h0 : j = 0 <;> simp [Addr.add, h0]

/-- 'string(b)' of a text, nil or not. -/
theorem conv_text {W : World} {ao : Option Addr} {n c : Nat} {g : Nat → Int} (h : HasText W ao n g) (hc : ao = none → n = 0) :
    (convert 22 9 (.slice ao n c)).run Tryd.prog W = .ok (.string ⟨(Nu.bytesAt g 0 n).toArray⟩) W := by
  have hl := Nu.bytesAt_length g 0 n
  cases ao with
  | none =>
    have := hc rfl
    subst this
    rw [run_convert_bytes_string W 22 9 5 none 0 c Tryd.underlying22 Tryd.underlying5 Tryd.underlying9]
    simp [Conv.bytesToString, Nu.bytesAt]
    rfl
  | some a =>
    have := run_convert_bytes_back (P := Tryd.prog) W 22 9 5 a c (Nu.bytesAt g 0 n) Tryd.underlying22 Tryd.underlying5 Tryd.underlying9 (fun j hj => by
      obtain ⟨⟨b0, b1⟩, tb, to, e, hcj⟩ := h j (by omega)
      cases e
      have e2 : ((⟨tb, to, none⟩ : Addr).add j) = ⟨tb, to + j, none⟩ := by
        by_cases h0 : j = 0 <;> simp [Addr.add, h0]
      rw [e2, hcj, Nu.bytesAt_get g 0 n j hj, Nat.zero_add]
      congr 2
      simp
      omega)
    rw [hl] at this
    exact this

theorem tok_but {w w' : World} {v : Value} {us : List Nu.Tok} {r : Option Nat} (h : TokSlice w v us) (hg : w.grownBy w' r) (hne : v.ownBlock = none ∨ v.ownBlock ≠ r) : TokSlice w' v us := by
  rcases h with h | ⟨T, cap, rfl, hc⟩
  · exact .inl h
  · refine .inr ⟨T, cap, rfl, fun j t hj => ?_⟩
    have hT : some T ≠ r := by
      rcases hne with h | h
      · cases h
      · exact h
    obtain ⟨h0, h1, h2, h3⟩ := hc j t hj
    exact ⟨hg.cell h0 hT, hg.cell h1 hT, hg.cell h2 hT, hg.cell h3 hT⟩

theorem tok_later {w w' : World} {v : Value} {us : List Nu.Tok} (h : TokSlice w v us) (hb : Below w.heap.size w w') : TokSlice w' v us := by
  rcases h with h | ⟨T, cap, rfl, hc⟩
  · exact .inl h
  · refine .inr ⟨T, cap, rfl, fun j t hj => ?_⟩
    obtain ⟨h0, h1, h2, h3⟩ := hc j t hj
    exact ⟨(hb.cell (p := ⟨T, j * 4, none⟩) (block_lt_of_cell h0)).trans h0, (hb.cell (p := ⟨T, j * 4 + 1, none⟩) (block_lt_of_cell h1)).trans h1, (hb.cell (p := ⟨T, j * 4 + 2, none⟩) (block_lt_of_cell h2)).trans h2, (hb.cell (p := ⟨T, j * 4 + 3, none⟩) (block_lt_of_cell h3)).trans h3⟩

theorem below_but {w0 w w' : World} {r : Option Nat} (h : Below w0.heap.size w0 w) (hg : w.grownBy w' r) (hr : ∀ k, r = some k → w0.heap.size ≤ k) : Below w0.heap.size w0 w' := h.grown hg h.size hr

set_option maxRecDepth 100000 in
set_option maxHeartbeats 16000000 in
theorem walk (a0 : Option Addr) (len0 cap0 : Nat) (z0 : List Int) (a1 : Option Addr) (len1 cap1 : Nat) (z1 : List Int) (w : World) (w0 : IsRow .u8 1 w a0 len0 cap0 z0) (w1 : IsRow .i64 8 w a1 len1 cap1 z1) (u0 : len0 ≤ 1048576) (u1 : len1 ≤ 1048576) (ht : Tab w) :
    Calls Tryd.prog 8 #[.slice a0 len0 cap0, .slice a1 len1 cap1] w fun e w' => e = .returned (.bool true) ∧ Below w.heap.size w w' := by
  obtain ⟨i0, hi, hz0, hz1, hz2⟩ := info_parts Tryd.infoU8
  obtain ⟨k0, ki, kz0, kz1, kz2⟩ := info_parts Tryd.infoInt
  obtain ⟨t0, ti, tz0, tz1, tz2⟩ := info_parts Tryd.infoTok
  have hnil : a0 = none → len0 = 0 := by
    rcases w0 with ⟨_, rfl, _⟩ | ⟨x, rfl, _⟩
    · exact fun _ => rfl
    · intro h; cases h
  have HTK0 := Nu.hid w0.take
  have HTK1 := Nu.hid w1.take
  have HTX0 := Nu.hid w0.text
  have HTX1 := Nu.hid w1.ints
  have HROW0 := Nu.hid w0
  have HROW1 := Nu.hid w1
  have HTAB := Nu.hid ht
  have HNIL := Nu.hid hnil
  clear w0 w1 ht hnil
  go_enter Tryd.func8, Tryd.ntmps8
  go_wp2_with (go_at_call 9; refine (awake_any _ HTAB.out).mono ?_; rintro e w1 ⟨rfl, hb1⟩; refine Hid.out ?_)
  refine Nu.hid ?_
  have HB1 := Nu.hid hb1
  have hs1 := hb1.size
  clear hb1
  go_wp2_with (at_builtin; refine wpList_copy rfl _ _ 22 rfl 5 .u8 i0 1 Tryd.underlying22 hi hz0 hz1 hz2 (by decide) w1 a0 len0 cap0 z0 rfl rfl (HROW0.out.later HB1.out) ?_; intro g2 c2 w2 hown2 hgb2 hlt2 hlc2 hb2; refine Hid.out ?_)
  refine Nu.hid ?_
  have HB2 := Nu.hid (HB1.out.trans (hb2.mono HB1.out.size))
  have hs2 := hb2.size
  clear hb2
  go_wp2_with (at_builtin; refine wpList_append_own _ rfl _ _ 22 rfl w1.heap.size 5 i0 (.int .u8 0) 1 1 Tryd.underlying22 hi hz0 hz1 hz2 rfl (by decide) _ _ _ rfl (World.ownsRow.alloc hown2 _) ⟨w2.heap.size, 0, none⟩ 2 2 [.int .u8 7, .int .u8 8] rfl rfl (cell_two_new _ _ _ _) (by intro u' hu'; simp at hu'; rcases hu' with rfl | rfl <;> rfl) (by unfold maxLen; omega) (by omega) (by simp; omega) ?_; intro v3 w3 hown3 hg3 _; refine Hid.out ?_)
  refine Nu.hid ?_
  have hle3 : ∀ q, (Value.slice (some ⟨g2, 0, none⟩) len0 c2).ownBlock = some q → w.heap.size ≤ q := fun q hq => by
    have e : g2 = q := by simpa [Value.ownBlock] using hq
    omega
  have HB3 := Nu.hid ((HB2.out.alloc HB2.out.size _).grown hg3 (by have := HB2.out.size; simp; omega) hle3)
  clear hg3 hown2 hle3
  rcases hown3.2 with ⟨-, h0⟩ | ⟨g3, c3, cur3, rfl, hgb3, hh3, hlc3, -⟩
  · omega
  have hg3l := lt_of_block hh3
  have hcell3 : ∀ j u, ((z0.take len0).map (Value.int .u8) ++ [.int .u8 7, .int .u8 8])[j]? = some u → w3.cell? ⟨g3, j, none⟩ = some u := fun j u h => by
    have := World.ownsRow.cells hown3 (g := g3) rfl j u h
    rw [add0] at this
    exact this
  obtain ⟨g, hg⟩ : ∃ g : Nat → Int, g = fun i => z0.getD i 0 := ⟨_, rfl⟩
  have hT3 : HasText w3 (some ⟨g3, 0, none⟩) len0 g := fun i hi' => by
    have hl : i < z0.length := by have := HTK0.out; simp at this; omega
    refine ⟨by rw [hg]; exact (HTX0.out i hi').1, g3, 0, rfl, ?_⟩
    rw [Nat.zero_add]
    refine hcell3 i _ ?_
    rw [List.getElem?_append_left (by rw [List.length_map, HTK0.out]; exact hi'), List.getElem?_map, List.getElem?_take, if_pos hi', List.getElem?_eq_getElem hl, hg]
    simp [List.getD_eq_getElem?_getD, List.getElem?_eq_getElem hl]
  have h7 : w3.cell? ⟨g3, len0, none⟩ = some (.int .u8 7) := hcell3 len0 _ (by rw [List.getElem?_append_right (by rw [List.length_map, HTK0.out]; exact Nat.le_refl _), List.length_map, HTK0.out]; simp)
  have h8 : w3.cell? ⟨g3, len0 + 1, none⟩ = some (.int .u8 8) := hcell3 (len0 + 1) _ (by rw [List.getElem?_append_right (by rw [List.length_map, HTK0.out]; omega), List.length_map, HTK0.out]; simp)
  rw [← hg] at HTX0
  have HT3 := Nu.hid hT3
  have H7 := Nu.hid h7
  have H8 := Nu.hid h8
  clear hcell3 hT3 h7 h8 hg hown3 hh3
  have i1 : (0 : Int) ≤ (len0 : Int) := by omega
  have i2 : (len0 : Int) ≤ (c3 : Int) := by omega
  have hao3 : ∀ (W : World), w3.heap.size ≤ W.heap.size → ∀ x, (some ⟨g3, 0, none⟩ : Option Addr) = some x → x.block < W.heap.size := fun W hW x hx => by
    cases hx
    show g3 < W.heap.size
    omega
  have HAO := Nu.hid hao3
  clear hao3
  go_wp2_with (go_at_call 10; refine (scan_any _ len0 c3 g _ HT3.out (HAO.out _ (Nat.le_refl _)) (by unfold maxLen; omega) (by omega)).mono ?_; refine Hid.out ?_)
  refine Nu.hid ?_
  rintro e w4 ⟨hb4, hx⟩
  have HB4 := Nu.hid (HB3.out.trans (hb4.mono HB3.out.size))
  have H34 := Nu.hid hb4
  have hs4 := hb4.size
  clear hb4
  rcases hx with ⟨hn, _⟩ | ⟨_, x, hsx, rfl⟩ | ⟨_, ts, T1, hsx, rfl, hT1, hrow1⟩
  · omega
  · have HSC := Nu.hid hsx
    clear hsx
    go_wp2_with (go_at_call 10; refine (scan_any _ len0 c3 g _ (HT3.out.later H34.out) (HAO.out _ hs4) (by unfold maxLen; omega) (by omega)).mono ?_; refine Hid.out ?_)
    refine Nu.hid ?_
    rintro e w5 ⟨hb5, hy⟩
    have HB5 := Nu.hid (HB4.out.trans (hb5.mono HB4.out.size))
    have H45 := Nu.hid hb5
    have hs5 := hb5.size
    clear hb5
    rcases hy with ⟨hn, _⟩ | ⟨_, y, hsy, rfl⟩ | ⟨_, us, U, hsy, _⟩
    · omega
    rotate_left
    · rw [HSC.out] at hsy; cases hsy
    clear hsy
    go_wp2_with (go_at_call 11; refine (ref_any _ len0 cap0 g _ (HTX0.out.later HB5.out) (by unfold maxLen; omega)).mono ?_; refine Hid.out ?_)
    refine Nu.hid ?_
    rintro e w6 ⟨hb6, hz⟩
    have HB6 := Nu.hid (HB5.out.trans (hb6.mono HB5.out.size))
    have H56 := Nu.hid hb6
    have hs6 := hb6.size
    clear hb6
    rcases hz with ⟨hn, _⟩ | ⟨_, z, hsz, rfl⟩ | ⟨_, us, U, hsz, _⟩
    · omega
    rotate_left
    · rw [HSC.out] at hsz; cases hsz
    clear hsz
    have HX6 : Hid (TokSlice w6 (.slice none 0 0) []) := .inl ⟨rfl, rfl⟩
    have HY6 : Hid (TokSlice w6 (.slice none 0 0) []) := .inl ⟨rfl, rfl⟩
    have HW6 : Hid (TokSlice w6 (.slice none 0 0) []) := .inl ⟨rfl, rfl⟩
    have hm0 : ([] : List Nu.Tok).length ≤ 4611686018427387904 := by decide
    have HC3 := Nu.hid (((HT3.out.later H34.out).later H45.out).later H56.out)
    have cv1 : ∀ nq, (convert 22 9 (.slice (some ⟨g3, 0, none⟩) len0 c3)).run Tryd.prog (w6.drewN nq) = .ok (.string ⟨(Nu.bytesAt g 0 len0).toArray⟩) (w6.drewN nq) := fun nq => conv_text (W := w6.drewN nq) HC3.out (fun h => by cases h)
    have cv2 : ∀ nq, (convert 22 9 (.slice a0 len0 cap0)).run Tryd.prog (w6.drewN nq) = .ok (.string ⟨(Nu.bytesAt g 0 len0).toArray⟩) (w6.drewN nq) := fun nq => conv_text (W := w6.drewN nq) (HTX0.out.later (below_drewN HB6.out nq)) HNIL.out
    have c7 : w6.cell? ⟨g3, len0, none⟩ = some (.int .u8 7) := by
      rw [H56.out.cell (p := ⟨g3, len0, none⟩) (show g3 < w5.heap.size by omega), H45.out.cell (p := ⟨g3, len0, none⟩) (show g3 < w4.heap.size by omega), H34.out.cell (p := ⟨g3, len0, none⟩) hg3l]; exact H7.out
    have c8 : w6.cell? ⟨g3, len0 + 1, none⟩ = some (.int .u8 8) := by
      rw [H56.out.cell (p := ⟨g3, len0 + 1, none⟩) (show g3 < w5.heap.size by omega), H45.out.cell (p := ⟨g3, len0 + 1, none⟩) (show g3 < w4.heap.size by omega), H34.out.cell (p := ⟨g3, len0 + 1, none⟩) hg3l]; exact H8.out
    have HSA := Nu.hid (fun k : Nat => same_any (.slice none 0 0) (.slice none 0 0) [] (w6.drewN k) HX6.out HY6.out (by omega))
    generalize Nu.bytesAt g 0 len0 = L at *
    have i4 : (len0 : Int) < (len0 : Int) + 2 := by omega
    have i5 : (len0 : Int) + 1 < (len0 : Int) + 2 := by omega
    go_wp2_with fail
    go_quiet ((go_at_call 12; exact Calls.quiet_of (HSA.out _)))
    clear cv1 cv2 c7 c8
    go_wp2
    go_loopw [80] (fun c wr => c = .int .i64 0 ∧ w6.grownBy wr none) (fun _ _ => 0)
    case atStart => exact ⟨rfl, grownBy_drewN (World.grownBy.refl _ _) _⟩
    case round =>
      obtain ⟨rfl, hgw⟩ := hrel
      go_wp2
      go_loopw [7, 17] (fun v c wr => ∃ (k nn : Nat) (xs : List Value), k ≤ 40 ∧ c = .int .i64 k ∧ nn ≤ 0 + k ∧ wr.ownsRow w3.heap.size 39 4 v nn xs ∧ (∀ b, v.ownBlock = some b → (none : Option Nat) = some b ∨ w6.heap.size ≤ b) ∧ w6.grownBy wr (none : Option Nat)) (fun _ c _ => 40 - (intOf c).toNat)
      case atStart => exact ⟨0, 0, _, by omega, rfl, by omega, (World.ownsRow_nil _ _ _ _), fun b hb => .inl hb, hgw⟩
      case round =>
        obtain ⟨k, nn, xs, hk, rfl, hnn, hown, hob, hgr⟩ := hrel
        have hsr : w6.heap.size ≤ wr.heap.size := hgr.size
        by_cases hlt : k < 40
        · have hlti : (k : Int) < 40 := by omega
          go_wp2_with (at_builtin; refine wpList_append_own_at _ rfl _ _ 24 rfl w3.heap.size 39 t0 (.agg #[.int .i64 0, .int .i64 0, .int .i64 0, .int .i64 0]) 4 32 Tryd.underlying24 ti tz0 tz1 tz2 rfl (by decide) _ _ _ rfl (World.ownsRow.alloc hown _) ⟨wr.heap.size, 0, none⟩ 1 1 [.int .i64 8, .int .i64 0, .int .i64 0, .int .i64 0] rfl rfl (new_tok _ _ _ _ _) (one_tok _ _ _ _) (by unfold maxLen; omega) (by omega) (by simp; omega) ?_; intro v1 wr1 hown1 hg1 _ hat; refine Hid.out ?_)
          refine Nu.hid ?_
          have R : (∀ b, v1.ownBlock = some b → (none : Option Nat) = some b ∨ w6.heap.size ≤ b) ∧ w6.grownBy wr1 (none : Option Nat) := by
            refine ⟨fun b hb => ?_, ?_⟩
            · rcases hat with h | h
              · exact hob b (h.symm.trans hb)
              · rw [h] at hb
                simp at hb
                omega
            · refine ⟨hg1.os.trans hgr.os, hg1.tape.trans hgr.tape, hg1.output.trans hgr.output, by have := hg1.size; simp at this; omega, fun i hi' hne => ?_⟩
              rw [hg1.block i (by simp; omega) (fun e => by
                rcases hob i e.symm with h | h
                · exact hne h.symm
                · omega), Below.heap_alloc _ _ _ (by omega)]
              exact hgr.block i hi' hne
          clear hg1 hat
          go_wp2
          go_roundw
          case rel => exact ⟨k + 1, nn + 1, _, by omega, by go_num, by omega, hown1, R.1, R.2⟩
          case measure => simp [intOf]; omega
        · have hd : ¬ ((k : Int) < 40) := by omega
          have HGR := Nu.hid hgr
          have HBR := Nu.hid (below_but HB6.out hgr (fun k h => by cases h))
          have HYR := Nu.hid (tok_but HY6.out hgr (.inl rfl))
          have HWR := Nu.hid (tok_but HW6.out hgr (.inl rfl))
          clear hgr hown hob
          go_wp2_with (at_builtin; refine wpList_copy rfl _ _ 32 rfl 3 .i64 k0 8 Tryd.underlying32 ki kz0 kz1 kz2 (by decide) wr a1 len1 cap1 z1 rfl rfl (HROW1.out.later HBR.out) ?_; intro g7 c7 w7 hown7 hgb7 hlt7 hlc7 hb7; refine Hid.out ?_)
          refine Nu.hid ?_
          have HB7 := Nu.hid (HBR.out.trans (hb7.mono HBR.out.size))
          have HR7 := Nu.hid hb7
          have hs7 := hb7.size
          clear hb7
          go_wp2_with (at_builtin; refine wpList_append_own _ rfl _ _ 32 rfl wr.heap.size 3 k0 (.int .i64 0) 1 8 Tryd.underlying32 ki kz0 kz1 kz2 rfl (by decide) _ _ _ rfl (World.ownsRow.alloc hown7 _) ⟨w7.heap.size, 0, none⟩ 1 1 [.int .i64 5] rfl rfl (new_one _ _ _) (by intro u' hu'; simp at hu'; subst hu'; rfl) (by unfold maxLen; omega) (by omega) (by simp; omega) ?_; intro v8 w8 hown8 hg8 _; refine Hid.out ?_)
          refine Nu.hid ?_
          have hle8 : ∀ q, (Value.slice (some ⟨g7, 0, none⟩) len1 c7).ownBlock = some q → wr.heap.size ≤ q := fun q hq => by
            have e : g7 = q := by simpa [Value.ownBlock] using hq
            omega
          have HR8 := Nu.hid ((HR7.out.alloc HR7.out.size _).grown hg8 (by have := HR7.out.size; simp; omega) hle8)
          have HB8 := Nu.hid (HBR.out.trans (HR8.out.mono HBR.out.size))
          clear hg8 hown7 hle8
          rcases hown8.2 with ⟨-, h0⟩ | ⟨g8, c8, cur8, rfl, hgb8, hh8, hlc8, -⟩
          · omega
          have hg8l := lt_of_block hh8
          have hcell8 : ∀ j u, ((z1.take len1).map (Value.int .i64) ++ [.int .i64 5])[j]? = some u → w8.cell? ⟨g8, j, none⟩ = some u := fun j u h => by
            have := World.ownsRow.cells hown8 (g := g8) rfl j u h
            rw [add0] at this
            exact this
          have hI8 : HasInts w8 (some ⟨g8, 0, none⟩) len1 (fun i => z1.getD i 0) := fun i hi' => by
            have hl : i < z1.length := by have := HTK1.out; simp at this; omega
            refine ⟨(HTX1.out i hi').1, g8, 0, rfl, ?_⟩
            rw [Nat.zero_add]
            refine hcell8 i _ ?_
            rw [List.getElem?_append_left (by rw [List.length_map, HTK1.out]; exact hi'), List.getElem?_map, List.getElem?_take, if_pos hi', List.getElem?_eq_getElem hl]
            simp [List.getD_eq_getElem?_getD, List.getElem?_eq_getElem hl]
          have h5 : w8.cell? ⟨g8, len1, none⟩ = some (.int .i64 5) := hcell8 len1 _ (by rw [List.getElem?_append_right (by rw [List.length_map, HTK1.out]; exact Nat.le_refl _), List.length_map, HTK1.out]; simp)
          have HI8 := Nu.hid hI8
          have H5 := Nu.hid h5
          clear hcell8 hI8 h5 hown8 hh8
          have l1 : (0 : Int) ≤ (len1 : Int) := by omega
          have l2 : (len1 : Int) ≤ (c8 : Int) := by omega
          have l3 : (len1 : Int) < (len1 : Int) + 1 := by omega
          go_wp2_with (go_at_call 13; refine (line_any _ len1 c8 _ _ HI8.out (by omega) (HTAB.out.below HB8.out)).mono ?_; rintro e w9 ⟨rfl, hb9⟩; refine Hid.out ?_)
          refine Nu.hid ?_
          have HB9 := Nu.hid (HB8.out.trans (hb9.mono HB8.out.size))
          have HI9 := Nu.hid (HI8.out.later hb9)
          have H59 := Nu.hid ((hb9.cell (p := ⟨g8, len1, none⟩) hg8l).trans H5.out)
          have HY9 := Nu.hid (tok_later (tok_later HYR.out HR8.out) hb9)
          have HW9 := Nu.hid (tok_later (tok_later HWR.out HR8.out) hb9)
          clear hb9
          go_wp2_with (go_at_call 12; refine (same_any _ _ [] _ HY9.out HW9.out hm0).mono ?_; rintro e w' ⟨rfl, m1, rfl⟩; refine Hid.out ?_)
          refine Nu.hid ?_
          go_wp2_with (go_at_call 17; refine (sameints_any _ _ len1 _ _ _ (w9.drewN m1) HI9.out (HTX1.out.later (below_drewN HB9.out m1)) (by omega)).mono ?_; rintro e w' ⟨rfl, m2, rfl⟩; refine Hid.out ?_)
          refine Nu.hid ?_
          have c5 := H59.out
          go_wp2
          go_ret
          exact ⟨by simp, below_drewN HB9.out _⟩
  · have HSC := Nu.hid hsx
    have hml := Nu.scan_length hsx
    have H4 := Nu.hid hrow1
    clear hsx hrow1
    go_wp2_with (go_at_call 10; refine (scan_any _ len0 c3 g _ (HT3.out.later H34.out) (HAO.out _ hs4) (by unfold maxLen; omega) (by omega)).mono ?_; refine Hid.out ?_)
    refine Nu.hid ?_
    rintro e w5 ⟨hb5, hy⟩
    have HB5 := Nu.hid (HB4.out.trans (hb5.mono HB4.out.size))
    have H45 := Nu.hid hb5
    have hs5 := hb5.size
    clear hb5
    rcases hy with ⟨hn, _⟩ | ⟨_, y, hsy, _⟩ | ⟨_, us, T2, hsy, rfl, hT2, hrow2⟩
    · omega
    · rw [HSC.out] at hsy; cases hsy
    rw [HSC.out] at hsy
    cases hsy
    have H5r := Nu.hid hrow2
    have hT2l : T2 < w5.heap.size := by obtain ⟨arr, har, _⟩ := hrow2; exact lt_of_block har
    have hT1l : T1 < w4.heap.size := by obtain ⟨arr, har, _⟩ := H4.out; exact lt_of_block har
    clear hrow2
    go_wp2_with (go_at_call 11; refine (ref_any _ len0 cap0 g _ (HTX0.out.later HB5.out) (by unfold maxLen; omega)).mono ?_; refine Hid.out ?_)
    refine Nu.hid ?_
    rintro e w6 ⟨hb6, hz⟩
    have HB6 := Nu.hid (HB5.out.trans (hb6.mono HB5.out.size))
    have H56 := Nu.hid hb6
    have hs6 := hb6.size
    clear hb6
    rcases hz with ⟨hn, _⟩ | ⟨_, z, hsz, _⟩ | ⟨_, us, v6, hsz, rfl, hv6⟩
    · omega
    · rw [HSC.out] at hsz; cases hsz
    rw [HSC.out] at hsz
    cases hsz
    have hv6b : ∀ q, v6.ownBlock = some q → w5.heap.size ≤ q := fun q hq => (World.ownsRow.lt hv6 q hq).1
    have HX6r := Nu.hid ((H4.out.below H45.out).below H56.out)
    have HX6 := Nu.hid HX6r.out.slice
    have HY6 := Nu.hid (H5r.out.below H56.out).slice
    have HW6 := Nu.hid hv6.slice
    clear hv6
    have HV6 := Nu.hid hv6b
    clear hv6b
    generalize hmm : ts.length = mm at *
    have HMM := Nu.hid hmm
    clear hmm
    have hm0 : ts.length ≤ 4611686018427387904 := by rw [HMM.out]; omega
    have HM0 := Nu.hid hm0
    have HC3 := Nu.hid (((HT3.out.later H34.out).later H45.out).later H56.out)
    have cv1 : ∀ nq, (convert 22 9 (.slice (some ⟨g3, 0, none⟩) len0 c3)).run Tryd.prog (w6.drewN nq) = .ok (.string ⟨(Nu.bytesAt g 0 len0).toArray⟩) (w6.drewN nq) := fun nq => conv_text (W := w6.drewN nq) HC3.out (fun h => by cases h)
    have cv2 : ∀ nq, (convert 22 9 (.slice a0 len0 cap0)).run Tryd.prog (w6.drewN nq) = .ok (.string ⟨(Nu.bytesAt g 0 len0).toArray⟩) (w6.drewN nq) := fun nq => conv_text (W := w6.drewN nq) (HTX0.out.later (below_drewN HB6.out nq)) HNIL.out
    have c7 : w6.cell? ⟨g3, len0, none⟩ = some (.int .u8 7) := by
      rw [H56.out.cell (p := ⟨g3, len0, none⟩) (show g3 < w5.heap.size by omega), H45.out.cell (p := ⟨g3, len0, none⟩) (show g3 < w4.heap.size by omega), H34.out.cell (p := ⟨g3, len0, none⟩) hg3l]; exact H7.out
    have c8 : w6.cell? ⟨g3, len0 + 1, none⟩ = some (.int .u8 8) := by
      rw [H56.out.cell (p := ⟨g3, len0 + 1, none⟩) (show g3 < w5.heap.size by omega), H45.out.cell (p := ⟨g3, len0 + 1, none⟩) (show g3 < w4.heap.size by omega), H34.out.cell (p := ⟨g3, len0 + 1, none⟩) hg3l]; exact H8.out
    have HSA := Nu.hid (fun k : Nat => same_any (.slice (some ⟨T1, 0, none⟩) mm mm) (.slice (some ⟨T2, 0, none⟩) mm mm) ts (w6.drewN k) HX6.out HY6.out HM0.out)
    generalize Nu.bytesAt g 0 len0 = L at *
    have i4 : (len0 : Int) < (len0 : Int) + 2 := by omega
    have i5 : (len0 : Int) + 1 < (len0 : Int) + 2 := by omega
    go_wp2_with fail
    go_quiet ((go_at_call 12; exact Calls.quiet_of (HSA.out _)))
    clear cv1 cv2 c7 c8
    go_wp2
    go_loopw [80] (fun c wr => ∃ j : Nat, j ≤ mm ∧ c = .int .i64 j ∧ (∃ arr, wr.heap[T1]? = some (.cells arr 39 (0, 0)) ∧ arr.size = mm * 4) ∧ w6.grownBy wr (some T1)) (fun c _ => mm - (intOf c).toNat)
    case atStart =>
      obtain ⟨arr, har, hsz, _⟩ := HX6r.out
      exact ⟨0, Nat.zero_le _, rfl, ⟨arr, har, hsz⟩, grownBy_drewN (World.grownBy.refl _ _) _⟩
    case round =>
      obtain ⟨j, hj, rfl, ⟨arr, har, hasz⟩, hgw⟩ := hrel
      by_cases hjl : j < mm
      · have hjli : (j : Int) < (mm : Int) := by omega
        have hj0 : (0 : Int) ≤ (j : Int) := by omega
        have f0 : ∀ i, wr.frozen? ⟨T1, i, none⟩ = false := fun i => by simp [World.frozen?, har]
        have hc : ∀ i, i < mm * 4 → ∃ v, wr.cell? ⟨T1, i, none⟩ = some v := fun i hi' => ⟨arr[i]'(by omega), by rw [cell_of_row wr _ i arr _ _ har]; simp⟩
        obtain ⟨v0, q0⟩ := hc (j * 4) (by omega)
        obtain ⟨v1, q1⟩ := hc (j * 4 + 1) (by omega)
        obtain ⟨v2, q2⟩ := hc (j * 4 + 2) (by omega)
        obtain ⟨v3, q3⟩ := hc (j * 4 + 3) (by omega)
        have HAR := Nu.hid har
        clear hc har
        go_wp2
        go_roundw
        case rel =>
          refine ⟨j + 1, by omega, by go_num, ⟨_, put4at_heap HAR.out (j * 4) _ _ _ _, by simpa using hasz⟩, ?_⟩
          exact grownBy_setCell (grownBy_setCell (grownBy_setCell (grownBy_setCell hgw _ _) _ _) _ _) _ _
        case measure => simp [intOf]; omega
      · have hd : ¬ ((j : Int) < (mm : Int)) := by omega
        have HOX := Nu.hid (show wr.ownsRow w3.heap.size 39 4 (.slice (some ⟨T1, 0, none⟩) mm mm) mm arr.toList from ⟨by simp [hasz], .inr ⟨T1, mm, arr, rfl, hT1, har, Nat.le_refl _, by unfold maxLen; omega, hasz, by rw [List.take_of_length_le (by simp [hasz])]⟩⟩)
        clear har hasz
        go_wp2
        go_loopw [7, 17] (fun v c wr => ∃ (k nn : Nat) (xs : List Value), k ≤ 40 ∧ c = .int .i64 k ∧ nn ≤ mm + k ∧ wr.ownsRow w3.heap.size 39 4 v nn xs ∧ (∀ b, v.ownBlock = some b → (some T1) = some b ∨ w6.heap.size ≤ b) ∧ w6.grownBy wr (some T1)) (fun _ c _ => 40 - (intOf c).toNat)
        case atStart => exact ⟨0, mm, _, by omega, rfl, by omega, HOX.out, fun b hb => .inl hb, hgw⟩
        case round =>
          obtain ⟨k, nn, xs, hk, rfl, hnn, hown, hob, hgr⟩ := hrel
          have hsr : w6.heap.size ≤ wr.heap.size := hgr.size
          by_cases hlt : k < 40
          · have hlti : (k : Int) < 40 := by omega
            go_wp2_with (at_builtin; refine wpList_append_own_at _ rfl _ _ 24 rfl w3.heap.size 39 t0 (.agg #[.int .i64 0, .int .i64 0, .int .i64 0, .int .i64 0]) 4 32 Tryd.underlying24 ti tz0 tz1 tz2 rfl (by decide) _ _ _ rfl (World.ownsRow.alloc hown _) ⟨wr.heap.size, 0, none⟩ 1 1 [.int .i64 8, .int .i64 0, .int .i64 0, .int .i64 0] rfl rfl (new_tok _ _ _ _ _) (one_tok _ _ _ _) (by unfold maxLen; omega) (by omega) (by simp; omega) ?_; intro v1 wr1 hown1 hg1 _ hat; refine Hid.out ?_)
            refine Nu.hid ?_
            have R : (∀ b, v1.ownBlock = some b → (some T1) = some b ∨ w6.heap.size ≤ b) ∧ w6.grownBy wr1 (some T1) := by
              refine ⟨fun b hb => ?_, ?_⟩
              · rcases hat with h | h
                · exact hob b (h.symm.trans hb)
                · rw [h] at hb
                  simp at hb
                  omega
              · refine ⟨hg1.os.trans hgr.os, hg1.tape.trans hgr.tape, hg1.output.trans hgr.output, by have := hg1.size; simp at this; omega, fun i hi' hne => ?_⟩
                rw [hg1.block i (by simp; omega) (fun e => by
                  rcases hob i e.symm with h | h
                  · exact hne h.symm
                  · omega), Below.heap_alloc _ _ _ (by omega)]
                exact hgr.block i hi' hne
            clear hg1 hat
            go_wp2
            go_roundw
            case rel => exact ⟨k + 1, nn + 1, _, by omega, by go_num, by omega, hown1, R.1, R.2⟩
            case measure => simp [intOf]; omega
          · have hd : ¬ ((k : Int) < 40) := by omega
            have HGR := Nu.hid hgr
            have HBR := Nu.hid (below_but HB6.out hgr (fun k h => by cases h; have := HB3.out.size; omega))
            have HYR := Nu.hid (tok_but HY6.out hgr (.inr (by show some T2 ≠ some T1; simp; omega)))
            have HWR := Nu.hid (tok_but HW6.out hgr (by
              by_cases hq : v6.ownBlock = none
              · exact .inl hq
              · right; intro e; have := HV6.out T1 e; omega))
            clear hgr hown hob
            go_wp2_with (at_builtin; refine wpList_copy rfl _ _ 32 rfl 3 .i64 k0 8 Tryd.underlying32 ki kz0 kz1 kz2 (by decide) wr a1 len1 cap1 z1 rfl rfl (HROW1.out.later HBR.out) ?_; intro g7 c7 w7 hown7 hgb7 hlt7 hlc7 hb7; refine Hid.out ?_)
            refine Nu.hid ?_
            have HB7 := Nu.hid (HBR.out.trans (hb7.mono HBR.out.size))
            have HR7 := Nu.hid hb7
            have hs7 := hb7.size
            clear hb7
            go_wp2_with (at_builtin; refine wpList_append_own _ rfl _ _ 32 rfl wr.heap.size 3 k0 (.int .i64 0) 1 8 Tryd.underlying32 ki kz0 kz1 kz2 rfl (by decide) _ _ _ rfl (World.ownsRow.alloc hown7 _) ⟨w7.heap.size, 0, none⟩ 1 1 [.int .i64 5] rfl rfl (new_one _ _ _) (by intro u' hu'; simp at hu'; subst hu'; rfl) (by unfold maxLen; omega) (by omega) (by simp; omega) ?_; intro v8 w8 hown8 hg8 _; refine Hid.out ?_)
            refine Nu.hid ?_
            have hle8 : ∀ q, (Value.slice (some ⟨g7, 0, none⟩) len1 c7).ownBlock = some q → wr.heap.size ≤ q := fun q hq => by
              have e : g7 = q := by simpa [Value.ownBlock] using hq
              omega
            have HR8 := Nu.hid ((HR7.out.alloc HR7.out.size _).grown hg8 (by have := HR7.out.size; simp; omega) hle8)
            have HB8 := Nu.hid (HBR.out.trans (HR8.out.mono HBR.out.size))
            clear hg8 hown7 hle8
            rcases hown8.2 with ⟨-, h0⟩ | ⟨g8, c8, cur8, rfl, hgb8, hh8, hlc8, -⟩
            · omega
            have hg8l := lt_of_block hh8
            have hcell8 : ∀ j u, ((z1.take len1).map (Value.int .i64) ++ [.int .i64 5])[j]? = some u → w8.cell? ⟨g8, j, none⟩ = some u := fun j u h => by
              have := World.ownsRow.cells hown8 (g := g8) rfl j u h
              rw [add0] at this
              exact this
            have hI8 : HasInts w8 (some ⟨g8, 0, none⟩) len1 (fun i => z1.getD i 0) := fun i hi' => by
              have hl : i < z1.length := by have := HTK1.out; simp at this; omega
              refine ⟨(HTX1.out i hi').1, g8, 0, rfl, ?_⟩
              rw [Nat.zero_add]
              refine hcell8 i _ ?_
              rw [List.getElem?_append_left (by rw [List.length_map, HTK1.out]; exact hi'), List.getElem?_map, List.getElem?_take, if_pos hi', List.getElem?_eq_getElem hl]
              simp [List.getD_eq_getElem?_getD, List.getElem?_eq_getElem hl]
            have h5 : w8.cell? ⟨g8, len1, none⟩ = some (.int .i64 5) := hcell8 len1 _ (by rw [List.getElem?_append_right (by rw [List.length_map, HTK1.out]; exact Nat.le_refl _), List.length_map, HTK1.out]; simp)
            have HI8 := Nu.hid hI8
            have H5 := Nu.hid h5
            clear hcell8 hI8 h5 hown8 hh8
            have l1 : (0 : Int) ≤ (len1 : Int) := by omega
            have l2 : (len1 : Int) ≤ (c8 : Int) := by omega
            have l3 : (len1 : Int) < (len1 : Int) + 1 := by omega
            go_wp2_with (go_at_call 13; refine (line_any _ len1 c8 _ _ HI8.out (by omega) (HTAB.out.below HB8.out)).mono ?_; rintro e w9 ⟨rfl, hb9⟩; refine Hid.out ?_)
            refine Nu.hid ?_
            have HB9 := Nu.hid (HB8.out.trans (hb9.mono HB8.out.size))
            have HI9 := Nu.hid (HI8.out.later hb9)
            have H59 := Nu.hid ((hb9.cell (p := ⟨g8, len1, none⟩) hg8l).trans H5.out)
            have HY9 := Nu.hid (tok_later (tok_later HYR.out HR8.out) hb9)
            have HW9 := Nu.hid (tok_later (tok_later HWR.out HR8.out) hb9)
            clear hb9
            go_wp2_with (go_at_call 12; refine (same_any _ _ ts _ HY9.out HW9.out hm0).mono ?_; rintro e w' ⟨rfl, m1, rfl⟩; refine Hid.out ?_)
            refine Nu.hid ?_
            go_wp2_with (go_at_call 17; refine (sameints_any _ _ len1 _ _ _ (w9.drewN m1) HI9.out (HTX1.out.later (below_drewN HB9.out m1)) (by omega)).mono ?_; rintro e w' ⟨rfl, m2, rfl⟩; refine Hid.out ?_)
            refine Nu.hid ?_
            have c5 := H59.out
            go_wp2
            go_ret
            exact ⟨by simp, below_drewN HB9.out _⟩
/-- What the walk gives, for every argument and every world that holds the tables. -/
theorem contract (H : Type) (enc : TypeId × Value → H) (W : World) (base : Nat) (args : Array Value) (ds gs : List (DataW H)) (before : List MemPlace)
    (hval : ∀ (j : Nat) t v, Tryd.f8.params[j]? = some t → args[j]? = some v → Value.okWide Tryd.prog W .any base t v)
    (hW : DataW.Whole enc Tryd.prog Tryd.f8.params.toList Rows.numsOwnSpec.vars false W args.toList ds gs before)
    (hsz : (DataW.weightsEach Tryd.prog (Tryd.f8.params.toList ++ (Rows.OpenSpec.upto Rows.numsOwnSpec).bare.plain.varTypes Tryd.prog) (ds ++ gs)).all (· ≤ reachBytes) = true)
    (hk : Rows.uptoSmall H (ds ++ gs) = true)
    (hL : laidMet Tryd.prog listed W) :
    Calls Tryd.prog 8 args W fun e W' => ∃ v, e = .returned v ∧ Rows.numsOwnSpec.post enc Tryd.prog Tryd.f8 false true false false W args v W' := by
  have hW' := hW
  obtain ⟨p, q, hA0, hV, rfl, hfz, hnd⟩ := hW
  have hA : DataW.TrodAll enc Tryd.prog W 0 (fun _ => true) true Tryd.f8.params.toList args.toList ds p := hA0
  rw [Tryd.params8] at hA hval hsz
  obtain ⟨v0, vs0, d0, ds0, p0, q0, hargs, rfl, rfl, h0, r0⟩ := trodAll_cons hA
  obtain ⟨v1, vs1, d1, ds1, p1, q1, rfl, rfl, rfl, h1, r1⟩ := trodAll_cons r0
  obtain ⟨rfl, rfl, rfl⟩ := trodAll_nil r1
  obtain rfl : args = #[v0, v1] := by cases args; simp_all
  obtain ⟨rfl, rfl⟩ := trodVars_none hV
  obtain ⟨a0, len0, cap0, rfl⟩ := okWide_slice Tryd.underlying22 (hval 0 22 v0 rfl rfl)
  have k0 := h0
  have lt0 : ∀ x ∈ p0, x.block < W.heap.size := by obtain ⟨m, hm⟩ := k0; exact DataW.trod_lt m _ _ _ hm
  obtain ⟨z0, w0⟩ := IsRow.of_trod (j := 0) Tryd.underlying22 Tryd.underlying5 cellsU8 bytesU8 h0 hsz rfl rfl
  have u0 : len0 ≤ 1048576 := IsRow.upto hk (j := 0) Tryd.underlying22 Tryd.underlying5 cellsU8 h0 rfl
  obtain ⟨a1, len1, cap1, rfl⟩ := okWide_slice Tryd.underlying32 (hval 1 32 v1 rfl rfl)
  have k1 := h1
  have lt1 : ∀ x ∈ p1, x.block < W.heap.size := by obtain ⟨m, hm⟩ := k1; exact DataW.trod_lt m _ _ _ hm
  obtain ⟨z1, w1⟩ := IsRow.of_trod (j := 1) Tryd.underlying32 Tryd.underlying3 cellsInt bytesInt h1 hsz rfl rfl
  have u1 : len1 ≤ 1048576 := IsRow.upto hk (j := 1) Tryd.underlying32 Tryd.underlying3 cellsInt h1 rfl
  clear hA0
  refine (walk a0 len0 cap0 z0 a1 len1 cap1 z1 W w0 w1 u0 u1 (table hL)).mono fun e W' ⟨he, bel⟩ => ?_
  subst he
  exact ⟨_, rfl, _, _, _, [], _, [], hW', trodAll_mk1 (shut_bool Tryd.underlying4 _), (trodAll_cons_mk (Below.trod laidOut (by kernel_rfl) (of_decide_eq_true (by kernel_rfl)) k0 bel lt0) (trodAll_cons_mk (Below.trod laidOut (by kernel_rfl) (of_decide_eq_true (by kernel_rfl)) k1 bel lt1) trodAll_mk0)), rfl, bel.frame _, fun h => by cases h⟩

theorem laid_met (os : Os) : laidMet Tryd.prog Rows.numsOwnUptoRow.laid ((laidWorld os).forCall (fun _ _ => 0) ⟨#[], #[.slice none 0 0, .slice none 0 0], []⟩).memory :=
  laidMet_of_run' 100 (by kernel_rfl) (by kernel_rfl)
theorem reads (os : Os) {H : Type} (enc : TypeId × Value → H) : ∃ places, DataW.whole enc Tryd.prog ((laidWorld os).forCall (fun _ _ => 0) ⟨#[], #[.slice none 0 0, .slice none 0 0], []⟩).memory Tryd.f8.params.toList Rows.numsOwnSpec.vars false (#[.slice none 0 0, .slice none 0 0] : Array Value).toList 8 = some ([.nil, .nil], [], places) :=
  ⟨[], by kernel_rfl⟩

set_option maxRecDepth 100000 in
theorem lifted (os : Os) (started : os.Started) (H : Type) (enc : TypeId × Value → H) (F : Stop.Interp) :
    ReturnsInHanded {} Tryd.checked os 8 .any ((Rows.OpenSpec.upto Rows.numsOwnSpec).preRow enc Tryd.prog Tryd.f8 Rows.numsOwnUptoRow.domain false Rows.numsOwnUptoRow.laid) (((Rows.OpenSpec.upto Rows.numsOwnSpec).at F).post enc Tryd.prog Tryd.f8 false true false false) := by
  obtain ⟨places, hx⟩ := reads os enc
  refine returnsInHanded_of_row (C := Tryd.checked) (s := (Rows.OpenSpec.upto Rows.numsOwnSpec)) own started (by kernel_rfl) Tryd.func8
    (witness_row_at (enc := enc) (C := Tryd.checked) false (laidWorld os) #[.slice none 0 0, .slice none 0 0] rfl (by kernel_rfl) (by kernel_rfl) (by kernel_rfl)
      (OpenSpec.preRow_of_cond 8 hx (by kernel_rfl) (fun k hk => by cases hk; kernel_rfl) (by kernel_rfl) (laid_met os))) ?_
  intro W base args ds gs before hval hW _ hcond hsz hL _ _
  exact contract H enc W base args ds gs before hval hW hsz (hcond _ rfl) hL

theorem said : Rows.NumsOwnUptoSaid :=
  OpenClaim.holds_of_cond 8 Tryd.f8 rfl rfl rfl rfl rfl rfl rfl ⟨rfl, rfl, rfl, rfl, rfl⟩ rfl rfl rfl rfl rfl (by kernel_rfl) Tryd.func8 (by kernel_rfl)
    (of_decide_eq_true (by kernel_rfl)) (by unfold Func.isWrapper; first | (rw [if_pos (by decide +kernel)]; kernel_rfl) | (rw [if_neg (by decide +kernel)]; exact ⟨rfl, rfl⟩))
    (fun os started H enc _ F => by rw [OpenClaim.pre_eq_preRow]; exact lifted os started H enc F)

theorem plain (f : FuncId) (fn : Func) (hf : Tryd.pinned.checked.prog.funcNamed "tangram/tangramlaw01.NumsOwn" = some f) (hfn : Tryd.pinned.checked.prog.funcs[f]? = some fn) :
    true = Tryd.pinned.checked.prog.looks [] ∧ ∀ (j : Nat) t, fn.params[j]? = some t → Tryd.pinned.checked.prog.wantsStandIn t = false := by
  obtain rfl : f = 8 := Option.some.inj ((show Tryd.prog.funcNamed "tangram/tangramlaw01.NumsOwn" = some 8 by kernel_rfl).symm.trans hf) |>.symm
  obtain rfl : fn = Tryd.f8 := (Option.some.inj (Tryd.func8.symm.trans hfn)).symm
  refine ⟨by kernel_rfl, fun j t ht => ?_⟩
  rw [Tryd.params8] at ht
  obtain hx : t = 22 ∨ t = 32 := by simpa using Array.mem_of_getElem? ht
  rcases hx with rfl | rfl
  · exact (show Tryd.prog.wantsStandIn 22 = false by kernel_rfl)
  · exact (show Tryd.prog.wantsStandIn 32 = false by kernel_rfl)

theorem card : Rows.NumsOwnUptoCardSaid :=
  Claim7.holds_tied_plain_at .later [] _ _ _ _ said (fun _ h => by cases h) (by kernel_rfl) (fun _ h => by cases h) numsOwnUpto_row_tie rfl ⟨rfl, rfl⟩ (by kernel_rfl) rfl plain (by kernel_rfl)


end lawOwn

theorem numsOwn_holds : Rows.NumsOwnUptoCardSaid := lawOwn.card

#print axioms numsOwn_holds
end Go.Proofs.YtcglpafbmekabaaDoor
