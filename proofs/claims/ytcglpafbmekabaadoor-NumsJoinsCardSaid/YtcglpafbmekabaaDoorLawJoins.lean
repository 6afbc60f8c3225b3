/-
  Proved: for every two lists of bytes the law NumsJoins answers true, and both lists read afterwards as before.
-/
import Derived.Test.YtcglpafbmekabaaDoorBase
import Derived.Test.YtcglpafbmekabaaDoorPlain5
namespace Go.Proofs.YtcglpafbmekabaaDoor
open Go.ChangeShapes Go.WideShapes Go.ChangeAt Go.RowKit

namespace lawJoins

theorem Tryd.infoU8 : (Tryd.prog.info? 5).map (fun i => (i.zero, i.size, i.bytes)) = some (some (.int .u8 0), 1, 1) := by kernel_rfl

theorem new_one (W : World) (v : Value) (e : TypeId) : ∀ j u, [v][j]? = some u → (W.alloc (.cells #[v] e)).cell? ((⟨W.heap.size, 0, none⟩ : Addr).add j) = some u := by
  intro j u' hj
  match j, hj with
  | 0, hj => simp at hj; subst hj; simp [Addr.add]

/-- The four cells of a token in block T, the j-th. -/
def At4 (w : World) (T j : Nat) (k a f m : Int) : Prop :=
  w.cell? ⟨T, j * 4, none⟩ = some (.int .i64 k) ∧ w.cell? ⟨T, j * 4 + 1, none⟩ = some (.int .i64 a) ∧ w.cell? ⟨T, j * 4 + 2, none⟩ = some (.int .i64 f) ∧ w.cell? ⟨T, j * 4 + 3, none⟩ = some (.int .i64 m)

theorem At4.later {w w' : World} {T j : Nat} {k a f m : Int} (h : At4 w T j k a f m) (hb : Below w.heap.size w w') : At4 w' T j k a f m := by
  obtain ⟨h0, h1, h2, h3⟩ := h
  exact ⟨(hb.cell (p := ⟨T, j * 4, none⟩) (block_lt_of_cell h0)).trans h0, (hb.cell (p := ⟨T, j * 4 + 1, none⟩) (block_lt_of_cell h1)).trans h1, (hb.cell (p := ⟨T, j * 4 + 2, none⟩) (block_lt_of_cell h2)).trans h2, (hb.cell (p := ⟨T, j * 4 + 3, none⟩) (block_lt_of_cell h3)).trans h3⟩

theorem at4_of {w : World} {T n c : Nat} {ts : List Nu.Tok} (h : TokSlice w (.slice (some ⟨T, 0, none⟩) n c) ts) {j : Nat} {t : Nu.Tok} (hj : ts[j]? = some t) : At4 w T j t.kind t.at' t.fin t.num := by
  rcases h with ⟨h, _⟩ | ⟨T', c', h, hc⟩
  · cases h
  · cases h
    exact hc j t hj

/-- A token of a slice, at its place. -/
theorem tok_at {w w' : World} {v : Value} {us : List Nu.Tok} (h : TokSlice w v us) (hb : Below w.heap.size w w') : TokSlice w' v us := by
  rcases h with h | ⟨T, cap, rfl, hc⟩
  · exact .inl h
  · refine .inr ⟨T, cap, rfl, fun j t hj => ?_⟩
    obtain ⟨h0, h1, h2, h3⟩ := hc j t hj
    exact ⟨(hb.cell (p := ⟨T, j * 4, none⟩) (block_lt_of_cell h0)).trans h0, (hb.cell (p := ⟨T, j * 4 + 1, none⟩) (block_lt_of_cell h1)).trans h1, (hb.cell (p := ⟨T, j * 4 + 2, none⟩) (block_lt_of_cell h2)).trans h2, (hb.cell (p := ⟨T, j * 4 + 3, none⟩) (block_lt_of_cell h3)).trans h3⟩

set_option maxRecDepth 100000 in
set_option maxHeartbeats 16000000 in
theorem walk (a0 : Option Addr) (len0 cap0 : Nat) (z0 : List Int) (a1 : Option Addr) (len1 cap1 : Nat) (z1 : List Int) (w : World) (w0 : IsRow .u8 1 w a0 len0 cap0 z0) (w1 : IsRow .u8 1 w a1 len1 cap1 z1) (ht : Tab w) :
    Calls Tryd.prog 6 #[.slice a0 len0 cap0, .slice a1 len1 cap1] w fun e w' => e = .returned (.bool true) ∧ Below w.heap.size w w' := by
  obtain ⟨i0, hi, hz0, hz1, hz2⟩ := info_parts Tryd.infoU8
  have hlen0 : len0 ≤ 140737488351232 := by simpa using w0.small
  have hlen1 : len1 ≤ 140737488351232 := by simpa using w1.small
  have HTK0 := Nu.hid w0.take
  have HTK1 := Nu.hid w1.take
  have HTX0 := Nu.hid w0.text
  have HTX1 := Nu.hid w1.text
  have HROW0 := Nu.hid w0
  have HROW1 := Nu.hid w1
  have HTAB := Nu.hid ht
  clear w0 w1 ht
  by_cases hbig : 30000000 < len0 + len1
  · have j0 : (30000000 : Int) < (len0 : Int) + (len1 : Int) := by omega
    go_enter Tryd.func6, Tryd.ntmps6
    go_wp2_with (go_at_call 9; refine (awake_any _ HTAB.out).mono ?_; rintro e w1 ⟨rfl, hb1⟩; refine Hid.out ?_)
    refine Nu.hid ?_
    go_wp2
    go_ret
    exact ⟨rfl, hb1⟩
  have j0 : ¬ ((30000000 : Int) < (len0 : Int) + (len1 : Int)) := by omega
  have HJ := Nu.hid (Nu.joined_lists z0 z1 len0 len1 HTK0.out HTK1.out)
  go_enter Tryd.func6, Tryd.ntmps6
  go_wp2_with (go_at_call 9; refine (awake_any _ HTAB.out).mono ?_; rintro e w1 ⟨rfl, hb1⟩; refine Hid.out ?_)
  refine Nu.hid ?_
  have HB1 := Nu.hid hb1
  clear hb1
  go_wp2_with (at_builtin; refine wpList_copy rfl _ _ 22 rfl 5 .u8 i0 1 Tryd.underlying22 hi hz0 hz1 hz2 (by decide) w1 a0 len0 cap0 z0 rfl rfl (HROW0.out.later HB1.out) ?_; intro g2 c2 w2 hown2 hgb2 hlt2 hlc2 hb2; refine Hid.out ?_)
  refine Nu.hid ?_
  have HB2 := Nu.hid (HB1.out.trans (hb2.mono HB1.out.size))
  have hs2 := hb2.size
  clear hb2
  go_wp2_with (at_builtin; refine wpList_append_own _ rfl _ _ 22 rfl w1.heap.size 5 i0 (.int .u8 0) 1 1 Tryd.underlying22 hi hz0 hz1 hz2 rfl (by decide) _ _ _ rfl (World.ownsRow.alloc hown2 _) ⟨w2.heap.size, 0, none⟩ 1 1 [.int .u8 10] rfl rfl (new_one _ _ _) (by intro u' hu'; simp at hu'; subst hu'; rfl) (by unfold maxLen; omega) (by omega) (by simp; omega) ?_; intro v3 w3 hown3 hg3 _; refine Hid.out ?_)
  refine Nu.hid ?_
  have hle3 : ∀ q, (Value.slice (some ⟨g2, 0, none⟩) len0 c2).ownBlock = some q → w.heap.size ≤ q := fun q hq => by
    have h1 := HB1.out.size
    have e : g2 = q := by simpa [Value.ownBlock] using hq
    omega
  have HB3 := Nu.hid ((HB2.out.alloc HB2.out.size _).grown hg3 (by have := HB2.out.size; simp; omega) hle3)
  have hs3 : w1.heap.size ≤ w3.heap.size := by have := hg3.size; simp at this; omega
  clear hg3 hown2
  rcases hown3.2 with ⟨-, h0⟩ | ⟨g3, c3, cur3, rfl, -⟩
  · omega
  have HO3 := Nu.hid hown3
  clear hown3
  go_wp2_with (at_builtin; refine wpList_grow rfl _ _ 22 rfl 5 .u8 i0 1 Tryd.underlying22 hi hz0 hz1 hz2 w3 w1.heap.size (len0 + 1) g3 c3 _ HO3.out hs3 a1 len1 cap1 z1 rfl rfl (HROW1.out.later HB3.out) (by unfold maxLen; omega) (by omega) ?_; intro g4 c4 w4 hown4 hgb4 hlt4 hlc4 hb4; refine Hid.out ?_)
  refine Nu.hid ?_
  have HB4 := Nu.hid (HB3.out.trans (hb4.mono HB1.out.size))
  clear hb4
  have HT4 : Hid (HasText w4 (some ⟨g4, 0, none⟩) (len0 + 1 + len1) (fun i => (z0.take len0 ++ [10] ++ z1.take len1).getD i 0)) := by
    refine own_text (B := w1.heap.size) (c := c4) ?_ ?_ ?_
    · rw [List.take_of_length_le (by rw [List.length_append, List.length_append, HTK0.out, HTK1.out]; simp), List.length_append, List.length_append, HTK0.out, HTK1.out]; simp
    · intro i hi'
      rcases Nat.lt_trichotomy i len0 with h | h | h
      · have e : (z0.take len0 ++ [10] ++ z1.take len1).getD i 0 = z0.getD i 0 := HJ.out.fst i h
        rw [e]; exact (HTX0.out i h).1
      · subst h
        have e : (z0.take i ++ [10] ++ z1.take len1).getD i 0 = 10 := HJ.out.mid
        rw [e]; decide
      · have e : (z0.take len0 ++ [10] ++ z1.take len1).getD (len0 + 1 + (i - (len0 + 1))) 0 = z1.getD (i - (len0 + 1)) 0 := HJ.out.snd (i - (len0 + 1)) (by omega)
        rw [show len0 + 1 + (i - (len0 + 1)) = i by omega] at e
        rw [e]; exact (HTX1.out (i - (len0 + 1)) (by omega)).1
    · rw [List.take_of_length_le (by rw [List.length_append, List.length_append, HTK0.out, HTK1.out]; simp), List.map_append, List.map_append]
      exact hown4
  clear hown4
  go_wp2_with (at_builtin; refine wpList_copy rfl _ _ 22 rfl 5 .u8 i0 1 Tryd.underlying22 hi hz0 hz1 hz2 (by decide) w4 a0 len0 cap0 z0 rfl rfl (HROW0.out.later HB4.out) ?_; intro g5 c5 w5 hown5 hgb5 hlt5 hlc5 hb5; refine Hid.out ?_)
  refine Nu.hid ?_
  have HT5 := Nu.hid (own_text HTK0.out (fun i hi => (HTX0.out i hi).1) hown5)
  have HB5 := Nu.hid (HB4.out.trans (hb5.mono HB4.out.size))
  have HT45 := Nu.hid (HT4.out.later hb5)
  have hs5 := hb5.size
  clear hown5 hb5
  go_wp2_with (go_at_call 10; refine (scan_any _ len0 c5 _ _ HT5.out (by intro x hx; cases hx; exact hlt5) (by unfold maxLen; omega) hlc5).mono ?_; refine Hid.out ?_)
  refine Nu.hid ?_
  rintro e w6 ⟨hb6, hx⟩
  have HB6 := Nu.hid (HB5.out.trans (hb6.mono HB5.out.size))
  have HT46 := Nu.hid (HT45.out.later hb6)
  have hs6 := hb6.size
  clear hb6
  rcases hx with ⟨hn, _⟩ | ⟨_, x, hsa, rfl⟩ | ⟨_, ts, T, hsa, rfl, hT, hrow⟩
  · omega
  · obtain ⟨hcode, hxl⟩ := Nu.scan_code hsa
    have HSB := Nu.hid ((Nu.scan_joined HJ.out).1 x hsa)
    obtain ⟨xp, xc⟩ := x
    dsimp only at hcode hxl
    have jc : (xc != 0) = true := by rcases hcode with rfl | rfl <;> decide
    clear hcode hsa
    dsimp only
    go_wp2_with (at_builtin; refine wpList_copy rfl _ _ 22 rfl 5 .u8 i0 1 Tryd.underlying22 hi hz0 hz1 hz2 (by decide) w6 a1 len1 cap1 z1 rfl rfl (HROW1.out.later HB6.out) ?_; intro g7 c7 w7 hown7 hgb7 hlt7 hlc7 hb7; refine Hid.out ?_)
    refine Nu.hid ?_
    have HT7 := Nu.hid (own_text HTK1.out (fun i hi => (HTX1.out i hi).1) hown7)
    have HB7 := Nu.hid (HB6.out.trans (hb7.mono HB6.out.size))
    have HT47 := Nu.hid (HT46.out.later hb7)
    have hs7 := hb7.size
    clear hown7 hb7
    go_wp2_with (go_at_call 10; refine (scan_any _ len1 c7 _ _ HT7.out (by intro x hx; cases hx; exact hlt7) (by unfold maxLen; omega) hlc7).mono ?_; refine Hid.out ?_)
    refine Nu.hid ?_
    rintro e w8 ⟨hb8, hy⟩
    have HB8 := Nu.hid (HB7.out.trans (hb8.mono HB7.out.size))
    have HT48 := Nu.hid (HT47.out.later hb8)
    have hs8 := hb8.size
    clear hb8
    rcases hy with ⟨hn, _⟩ | ⟨_, y, hsb, rfl⟩ | ⟨_, us, U, hsb, rfl, hU, hrowU⟩
    · omega
    · clear hsb
      have hao9 : ∀ x, (some ⟨g4, 0, none⟩ : Option Addr) = some x → x.block < w8.heap.size := fun x hx => by
        cases hx
        show g4 < w8.heap.size
        omega
      go_wp2_with (go_at_call 10; refine (scan_any _ (len0 + 1 + len1) c4 _ _ HT48.out hao9 (by unfold maxLen; omega) hlc4).mono ?_; refine Hid.out ?_)
      refine Nu.hid ?_
      rintro e w9 ⟨hb9, hz⟩
      have HB9 := Nu.hid (HB8.out.trans (hb9.mono HB8.out.size))
      clear hb9
      rcases hz with ⟨hn, _⟩ | ⟨_, y, hsz, rfl⟩ | ⟨_, us, U, hsz, _⟩
      · omega
      rotate_left
      · rw [HSB.out] at hsz; cases hsz
      rw [HSB.out] at hsz
      cases hsz
      dsimp only
      go_wp2
      go_ret
      exact ⟨by simp, HB9.out⟩
    · clear hsb
      have hao9 : ∀ x, (some ⟨g4, 0, none⟩ : Option Addr) = some x → x.block < w8.heap.size := fun x hx => by
        cases hx
        show g4 < w8.heap.size
        omega
      go_wp2_with (go_at_call 10; refine (scan_any _ (len0 + 1 + len1) c4 _ _ HT48.out hao9 (by unfold maxLen; omega) hlc4).mono ?_; refine Hid.out ?_)
      refine Nu.hid ?_
      rintro e w9 ⟨hb9, hz⟩
      have HB9 := Nu.hid (HB8.out.trans (hb9.mono HB8.out.size))
      clear hb9
      rcases hz with ⟨hn, _⟩ | ⟨_, y, hsz, rfl⟩ | ⟨_, us, U, hsz, _⟩
      · omega
      rotate_left
      · rw [HSB.out] at hsz; cases hsz
      rw [HSB.out] at hsz
      cases hsz
      dsimp only
      go_wp2
      go_ret
      exact ⟨by simp, HB9.out⟩
  · have HROWX := Nu.hid hrow
    obtain ⟨vs, htsv, hscan⟩ := (Nu.scan_joined HJ.out).2 ts hsa
    have HV := Nu.hid htsv
    have HSA := Nu.hid hsa
    have HSB := Nu.hid hscan
    clear hrow hsa htsv hscan
    go_wp2_with (at_builtin; refine wpList_copy rfl _ _ 22 rfl 5 .u8 i0 1 Tryd.underlying22 hi hz0 hz1 hz2 (by decide) w6 a1 len1 cap1 z1 rfl rfl (HROW1.out.later HB6.out) ?_; intro g7 c7 w7 hown7 hgb7 hlt7 hlc7 hb7; refine Hid.out ?_)
    refine Nu.hid ?_
    have HT7 := Nu.hid (own_text HTK1.out (fun i hi => (HTX1.out i hi).1) hown7)
    have HB7 := Nu.hid (HB6.out.trans (hb7.mono HB6.out.size))
    have HT47 := Nu.hid (HT46.out.later hb7)
    have HX7 := Nu.hid (HROWX.out.below hb7)
    have hs7 := hb7.size
    clear hown7 hb7
    go_wp2_with (go_at_call 10; refine (scan_any _ len1 c7 _ _ HT7.out (by intro x hx; cases hx; exact hlt7) (by unfold maxLen; omega) hlc7).mono ?_; refine Hid.out ?_)
    refine Nu.hid ?_
    rintro e w8 ⟨hb8, hy⟩
    have HB8 := Nu.hid (HB7.out.trans (hb8.mono HB7.out.size))
    have HT48 := Nu.hid (HT47.out.later hb8)
    have HX8 := Nu.hid (HX7.out.below hb8)
    have hs8 := hb8.size
    clear hb8
    rcases hy with ⟨hn, _⟩ | ⟨_, y, hsb, rfl⟩ | ⟨_, us, U, hsb, rfl, hU, hrowU⟩
    · omega
    · obtain ⟨hcode, hyl⟩ := Nu.scan_code hsb
      have HSC := Nu.hid hsb
      obtain ⟨yp, yc⟩ := y
      dsimp only at hcode hyl
      have jc : (yc != 0) = true := by rcases hcode with rfl | rfl <;> decide
      clear hcode hsb
      dsimp only
      have hao9 : ∀ x, (some ⟨g4, 0, none⟩ : Option Addr) = some x → x.block < w8.heap.size := fun x hx => by
        cases hx
        show g4 < w8.heap.size
        omega
      go_wp2_with (go_at_call 10; refine (scan_any _ (len0 + 1 + len1) c4 _ _ HT48.out hao9 (by unfold maxLen; omega) hlc4).mono ?_; refine Hid.out ?_)
      refine Nu.hid ?_
      rintro e w9 ⟨hb9, hz⟩
      have HB9 := Nu.hid (HB8.out.trans (hb9.mono HB8.out.size))
      clear hb9
      have e9 := HSB.out
      rw [HSC.out] at e9
      rcases hz with ⟨hn, _⟩ | ⟨_, x, hsz, rfl⟩ | ⟨_, us, U, hsz, _⟩
      · omega
      rotate_left
      · rw [e9] at hsz; cases hsz
      rw [e9] at hsz
      cases hsz
      clear e9
      dsimp only
      go_wp2
      go_ret
      exact ⟨rfl, HB9.out⟩
    · have HSC := Nu.hid hsb
      have HROWY := Nu.hid hrowU
      clear hsb hrowU
      have hao9 : ∀ x, (some ⟨g4, 0, none⟩ : Option Addr) = some x → x.block < w8.heap.size := fun x hx => by
        cases hx
        show g4 < w8.heap.size
        omega
      go_wp2_with (go_at_call 10; refine (scan_any _ (len0 + 1 + len1) c4 _ _ HT48.out hao9 (by unfold maxLen; omega) hlc4).mono ?_; refine Hid.out ?_)
      refine Nu.hid ?_
      rintro e w9 ⟨hb9, hz⟩
      have HB9 := Nu.hid (HB8.out.trans (hb9.mono HB8.out.size))
      have HX9 := Nu.hid (HX8.out.below hb9).slice
      have HY9 := Nu.hid (HROWY.out.below hb9).slice
      clear hb9
      have e9 := HSB.out
      rw [HSC.out] at e9
      rcases hz with ⟨hn, _⟩ | ⟨_, x, hsz, _⟩ | ⟨_, rs, R, hsz, rfl, hR, hrowZ⟩
      · omega
      · rw [e9] at hsz; cases hsz
      rw [e9] at hsz
      cases hsz
      clear e9
      have hfu := Nu.scan_fits HSC.out
      have hul := Nu.scan_length HSC.out
      have HZ9 := Nu.hid hrowZ.slice
      clear hrowZ
      have hlx : ts.length = vs.length + 1 := by rw [HV.out]; simp
      have hlz : (vs ++ [(⟨2, len0, (len0 : Int) + 1, 0⟩ : Nu.Tok)] ++ List.map (Nu.Tok.on (len0 + 1)) us).length = vs.length + 1 + us.length := by simp; omega
      have hvl : vs.length ≤ len0 + 1 := by have := Nu.scan_length HSA.out; omega
      have CX : ∀ j t, vs[j]? = some t → At4 w9 T j t.kind t.at' t.fin t.num := fun j t hj => at4_of HX9.out (by rw [HV.out, List.getElem?_append_left (List.getElem?_eq_some_iff.1 hj).1]; exact hj)
      have CZ1 : ∀ j t, vs[j]? = some t → At4 w9 R j t.kind t.at' t.fin t.num := fun j t hj => at4_of HZ9.out (by rw [List.append_assoc, List.getElem?_append_left (List.getElem?_eq_some_iff.1 hj).1]; exact hj)
      have CZ2 : At4 w9 R vs.length 2 len0 ((len0 : Int) + 1) 0 := at4_of HZ9.out (t := ⟨2, len0, (len0 : Int) + 1, 0⟩) (by simp)
      have CZ3 : ∀ j t, us[j]? = some t → At4 w9 R (vs.length + 1 + j) t.kind (t.at' + ((len0 : Int) + 1)) (t.fin + ((len0 : Int) + 1)) t.num := fun j t hj => by
        have := at4_of HZ9.out (j := vs.length + 1 + j) (t := t.on (len0 + 1)) (by rw [List.getElem?_append_right (by simp)]; simp [hj])
        simpa [Nu.Tok.on] using this
      have CY : ∀ j t, us[j]? = some t → At4 w9 U j t.kind t.at' t.fin t.num := fun j t hj => at4_of HY9.out hj
      rw [hlx, hlz]
      have HCX := Nu.hid CX
      have HCZ1 := Nu.hid CZ1
      have HCZ2 := Nu.hid CZ2
      have HCZ3 := Nu.hid CZ3
      have HCY := Nu.hid CY
      have HFU := Nu.hid hfu
      clear CX CZ1 CZ2 CZ3 CY hlx hlz hfu HZ9 HX9 HY9
      have jx : ((vs.length : Int) + 1 == 0) = false := by simp; omega
      go_wp2
      go_loopw [16] (fun c wr => ∃ (k m : Nat), k ≤ vs.length ∧ c = .int .i64 k ∧ wr = w9.drewN m) (fun c _ => vs.length - (intOf c).toNat)
      case atStart => exact ⟨0, 0, Nat.zero_le _, rfl, rfl⟩
      case round =>
        obtain ⟨k, m, hk, rfl, rfl⟩ := hrel
        by_cases hlt : k < vs.length
        · have hlti : (k : Int) < (vs.length : Int) := by omega
          have hk0 : (0 : Int) ≤ (k : Int) := by omega
          obtain ⟨x0, x1, x2, x3⟩ := HCX.out k vs[k] (by simp [hlt])
          obtain ⟨y0, y1, y2, y3⟩ := HCZ1.out k vs[k] (by simp [hlt])
          obtain ⟨t, ht⟩ : ∃ t, t = vs[k] := ⟨_, rfl⟩
          rw [← ht] at x0 x1 x2 x3 y0 y1 y2 y3
          clear ht
          obtain ⟨tk, ta, tf, tn⟩ := t
          dsimp only at x0 x1 x2 x3 y0 y1 y2 y3
          go_wp2_with fail
          go_quiet (fail)
          go_wp2
          go_roundw
          case rel => exact ⟨k + 1, m + nq, by omega, by go_num, rfl⟩
          case measure => simp [intOf]; omega
        · have hd : ¬ ((k : Int) < (vs.length : Int)) := by omega
          obtain ⟨y0, y1, y2, y3⟩ := HCZ2.out
          go_wp2
          clear y0 y1 y2 y3
          have hB0 : Below w9.heap.size w9 (w9.drewN m) := below_drewN (Below.refl _ _) m
          go_loopw [17] (fun c wr => ∃ (k : Nat), k ≤ us.length ∧ c = .int .i64 k ∧ Below w9.heap.size w9 wr) (fun c _ => us.length - (intOf c).toNat)
          case atStart => exact ⟨0, Nat.zero_le _, rfl, hB0⟩
          case round =>
            obtain ⟨i, hil, rfl, hbr⟩ := hrel
            by_cases hilt : i < us.length
            · have hilti : (i : Int) < (us.length : Int) := by omega
              have hi0 : (0 : Int) ≤ (i : Int) := by omega
              have hvi : (0 : Int) ≤ (vs.length : Int) + 1 + (i : Int) := by omega
              have hvl2 : (vs.length : Int) + 1 + (i : Int) < (vs.length : Int) + 1 + (us.length : Int) := by omega
              obtain ⟨x0, x1, x2, x3⟩ := (HCY.out i us[i] (by simp [hilt])).later hbr
              obtain ⟨y0, y1, y2, y3⟩ := (HCZ3.out i us[i] (by simp [hilt])).later hbr
              obtain ⟨_, f1, f2, f3, f4, _, _⟩ := HFU.out us[i] (by simp)
              obtain ⟨t, ht⟩ : ∃ t, t = us[i] := ⟨_, rfl⟩
              rw [← ht] at x0 x1 x2 x3 y0 y1 y2 y3 f1 f2 f3 f4
              clear ht
              obtain ⟨tk, ta, tf, tn⟩ := t
              dsimp only at x0 x1 x2 x3 y0 y1 y2 y3 f1 f2 f3 f4
              have hRl : R < wr.heap.size := block_lt_of_cell y0
              go_wp2_with fail
              go_quiet (fail)
              go_wp2
              go_roundw
              case rel => exact ⟨i + 1, by omega, by go_num, below_drewN (hbr.alloc hbr.size _) _⟩
              case measure => simp [intOf]; omega
            · have hd2 : ¬ ((i : Int) < (us.length : Int)) := by omega
              go_wp2
              go_ret
              exact ⟨rfl, HB9.out.trans (hbr.mono HB9.out.size)⟩

/-- What the walk gives, for every argument and every world that holds the tables. -/
theorem contract (H : Type) (enc : TypeId × Value → H) (W : World) (base : Nat) (args : Array Value) (ds gs : List (DataW H)) (before : List MemPlace)
    (hval : ∀ (j : Nat) t v, Tryd.f6.params[j]? = some t → args[j]? = some v → Value.okWide Tryd.prog W .any base t v)
    (hW : DataW.Whole enc Tryd.prog Tryd.f6.params.toList Rows.numsJoinsSpec.vars false W args.toList ds gs before)
    (hsz : (DataW.weightsEach Tryd.prog (Tryd.f6.params.toList ++ (OpenSpec.ofChange Rows.numsJoinsSpec).bare.plain.varTypes Tryd.prog) (ds ++ gs)).all (· ≤ reachBytes) = true)
    (hL : laidMet Tryd.prog listed W) :
    Calls Tryd.prog 6 args W fun e W' => ∃ v, e = .returned v ∧ Rows.numsJoinsSpec.post enc Tryd.prog Tryd.f6 false true false false W args v W' := by
  have hW' := hW
  obtain ⟨p, q, hA0, hV, rfl, hfz, hnd⟩ := hW
  have hA : DataW.TrodAll enc Tryd.prog W 0 (fun _ => true) true Tryd.f6.params.toList args.toList ds p := hA0
  rw [Tryd.params6] at hA hval hsz
  obtain ⟨v0, vs0, d0, ds0, p0, q0, hargs, rfl, rfl, h0, r0⟩ := trodAll_cons hA
  obtain ⟨v1, vs1, d1, ds1, p1, q1, rfl, rfl, rfl, h1, r1⟩ := trodAll_cons r0
  obtain ⟨rfl, rfl, rfl⟩ := trodAll_nil r1
  obtain rfl : args = #[v0, v1] := by cases args; simp_all
  obtain ⟨rfl, rfl⟩ := trodVars_none hV
  obtain ⟨a0, len0, cap0, rfl⟩ := okWide_slice Tryd.underlying22 (hval 0 22 v0 rfl rfl)
  have k0 := h0
  have lt0 : ∀ x ∈ p0, x.block < W.heap.size := by obtain ⟨m, hm⟩ := k0; exact DataW.trod_lt m _ _ _ hm
  obtain ⟨z0, w0⟩ := IsRow.of_trod (j := 0) Tryd.underlying22 Tryd.underlying5 cellsU8 bytesU8 h0 hsz rfl rfl
  obtain ⟨a1, len1, cap1, rfl⟩ := okWide_slice Tryd.underlying22 (hval 1 22 v1 rfl rfl)
  have k1 := h1
  have lt1 : ∀ x ∈ p1, x.block < W.heap.size := by obtain ⟨m, hm⟩ := k1; exact DataW.trod_lt m _ _ _ hm
  obtain ⟨z1, w1⟩ := IsRow.of_trod (j := 1) Tryd.underlying22 Tryd.underlying5 cellsU8 bytesU8 h1 hsz rfl rfl
  clear hA0
  refine (walk a0 len0 cap0 z0 a1 len1 cap1 z1 W w0 w1 (table hL)).mono fun e W' ⟨he, bel⟩ => ?_
  subst he
  exact ⟨_, rfl, _, _, _, [], _, [], hW', trodAll_mk1 (shut_bool Tryd.underlying4 _), (trodAll_cons_mk (Below.trod laidOut (by kernel_rfl) (of_decide_eq_true (by kernel_rfl)) k0 bel lt0) (trodAll_cons_mk (Below.trod laidOut (by kernel_rfl) (of_decide_eq_true (by kernel_rfl)) k1 bel lt1) trodAll_mk0)), rfl, bel.frame _, fun h => by cases h⟩

theorem laid_met (os : Os) : laidMet Tryd.prog Rows.numsJoinsRow.laid ((laidWorld os).forCall (fun _ _ => 0) ⟨#[], #[.slice none 0 0, .slice none 0 0], []⟩).memory :=
  laidMet_of_run' 100 (by kernel_rfl) (by kernel_rfl)
theorem reads (os : Os) {H : Type} (enc : TypeId × Value → H) : ∃ places, DataW.whole enc Tryd.prog ((laidWorld os).forCall (fun _ _ => 0) ⟨#[], #[.slice none 0 0, .slice none 0 0], []⟩).memory Tryd.f6.params.toList Rows.numsJoinsSpec.vars false (#[.slice none 0 0, .slice none 0 0] : Array Value).toList 8 = some ([.nil, .nil], [], places) :=
  ⟨[], by kernel_rfl⟩

set_option maxRecDepth 100000 in
theorem lifted (os : Os) (started : os.Started) (H : Type) (enc : TypeId × Value → H) (F : Stop.Interp) :
    ReturnsInHanded {} Tryd.checked os 6 .any ((OpenSpec.ofChange Rows.numsJoinsSpec).preRow enc Tryd.prog Tryd.f6 Rows.numsJoinsRow.domain false Rows.numsJoinsRow.laid) (((OpenSpec.ofChange Rows.numsJoinsSpec).at F).post enc Tryd.prog Tryd.f6 false true false false) := by
  obtain ⟨places, hx⟩ := reads os enc
  refine returnsInHanded_of_row (C := Tryd.checked) (s := (OpenSpec.ofChange Rows.numsJoinsSpec)) own started (by kernel_rfl) Tryd.func6
    (witness_row_at (enc := enc) (C := Tryd.checked) false (laidWorld os) #[.slice none 0 0, .slice none 0 0] rfl (by kernel_rfl) (by kernel_rfl) (by kernel_rfl)
      (OpenSpec.preRow_of_cond 8 hx (by kernel_rfl) (fun k hk => by cases hk) (by kernel_rfl) (laid_met os))) ?_
  intro W base args ds gs before hval hW _ hcond hsz hL _ _
  exact contract H enc W base args ds gs before hval hW hsz hL

theorem said : Rows.NumsJoinsSaid :=
  OpenClaim.holds_of_cond 6 Tryd.f6 rfl rfl rfl rfl rfl rfl rfl ⟨rfl, rfl, rfl, rfl, rfl⟩ rfl rfl rfl rfl rfl (by kernel_rfl) Tryd.func6 (by kernel_rfl)
    (of_decide_eq_true (by kernel_rfl)) (by unfold Func.isWrapper; first | (rw [if_pos (by decide +kernel)]; kernel_rfl) | (rw [if_neg (by decide +kernel)]; exact ⟨rfl, rfl⟩))
    (fun os started H enc _ F => by rw [OpenClaim.pre_eq_preRow]; exact lifted os started H enc F)

theorem plain (f : FuncId) (fn : Func) (hf : Tryd.pinned.checked.prog.funcNamed "tangram/tangramlaw01.NumsJoins" = some f) (hfn : Tryd.pinned.checked.prog.funcs[f]? = some fn) :
    true = Tryd.pinned.checked.prog.looks [] ∧ ∀ (j : Nat) t, fn.params[j]? = some t → Tryd.pinned.checked.prog.wantsStandIn t = false := by
  obtain rfl : f = 6 := Option.some.inj ((show Tryd.prog.funcNamed "tangram/tangramlaw01.NumsJoins" = some 6 by kernel_rfl).symm.trans hf) |>.symm
  obtain rfl : fn = Tryd.f6 := (Option.some.inj (Tryd.func6.symm.trans hfn)).symm
  refine ⟨by kernel_rfl, fun j t ht => ?_⟩
  rw [Tryd.params6] at ht
  obtain rfl : t = 22 := by simpa using Array.mem_of_getElem? ht
  exact (show Tryd.prog.wantsStandIn 22 = false by kernel_rfl)

theorem card : Rows.NumsJoinsCardSaid :=
  Claim7.holds_tied_plain_at .later [] _ _ _ _ said (fun _ h => by cases h) (by kernel_rfl) (fun _ h => by cases h) numsJoins_row_tie rfl ⟨rfl, rfl⟩ (by kernel_rfl) rfl plain (by kernel_rfl)


end lawJoins

theorem numsJoins_holds : Rows.NumsJoinsCardSaid := lawJoins.card

#print axioms numsJoins_holds
end Go.Proofs.YtcglpafbmekabaaDoor
