/-
  Layer 15: that the fixed fact of the statements is true.
-/
import Derived.Test.YtdhaaodalchpkaaKvN
import Derived.Test.YtdhaaodalchpkaaMgE
import Derived.Test.YtdhaaodalchpkaaKwD
import Derived.Test.YtdhaaodalchpkaaMgI
import Derived.Test.YtdhaaodalchpkaaKuQ
namespace Go.Proofs.Ytdhaaodalchpkaa
open Go.RowKit Go.Sort Go.Maps

set_option maxRecDepth 100000 in
set_option maxHeartbeats 16000000 in
theorem prism_any (w : World) : Calls Try.prog 22 #[] w fun e w' => ∃ b, e = .returned (.agg #[.int .i64 6, .slice (some ⟨b, 0, none⟩) 9 9]) ∧ EdgesAt w' (some ⟨b, 0, none⟩) Ku.ep ∧ Below w.heap.size w w' := by
  go_enter Try.func22, Try.ntmps22
  go_wp2
  refine bodyPost_ret (v := .agg #[.int .i64 6, .slice (some ⟨w.heap.size + 1, 0, none⟩) 9 9]) (by simp [results, Try.results22, go_sem]) rfl ?_
  refine ⟨w.heap.size + 1, rfl, EdsBlk.at ?_, ((Below.refl _ _).alloc (Nat.le_refl _) _).alloc (by simp) _⟩
  have := heap_alloc_new (w.alloc (.cells #[.int .i64 6, .slice (some ⟨w.heap.size + 1, 0, none⟩) 9 9] 24)) (.cells (flatE Ku.ep).toArray 57)
  rw [World.size_alloc] at this
  exact this

theorem compl15_5 (w : World) : Calls Try.prog 21 #[.int .i64 5] w fun e w' => ∃ ao cap, e = .returned (.agg #[.int .i64 5, .slice ao 10 cap]) ∧ EdgesAt w' ao Ku.e5 ∧ Below w.heap.size w w' :=
  (complete15_any 5 (by omega) w).mono fun e w' ⟨ao, cap, h1, h2, h3⟩ => by
    rw [show Kw.cmpl 5 5 = Ku.e5 by decide] at h1 h2
    exact ⟨ao, cap, h1, h2, h3⟩

namespace Ku
def Rec5 (w : World) (e : Ending) (w' : World) : Prop := ∃ (ba : Option Addr) (bc pg pc : Nat) (pa : Option Addr) (p9 : Nat), e = .returned (.tuple #[.agg #[.int .i64 1, .slice ba 5 bc, .slice (some ⟨pg, 0, none⟩) 10 pc], .bool true, .int .i64 0]) ∧ IntsAt w' ba [0, 1, 2, 3, 4] ∧ w'.cell? ⟨pg, 9, none⟩ = some (.slice pa 2 p9) ∧ IntsAt w' pa [3, 4] ∧ Below w.heap.size w w'
end Ku
theorem rec5_any (ao : Option Addr) (cap : Nat) (w : World) (he : EdgesAt w ao Ku.e5) : Calls Try.prog 13 #[.agg #[.int .i64 5, .slice ao 10 cap]] w (Ku.Rec5 w) :=
  (precognise_any 5 ao cap Ku.e5 w he (by decide)).mono fun e w' ⟨hc, hb⟩ => by
    rcases hc with ⟨hv, _⟩ | ⟨m, hv, hm, ha⟩
    · have h1 : Si.valid 5 Ku.e5 = true := Si.valid_iff.2 Ku.vale5
      rw [h1] at hv
      cases hv
    · obtain rfl : m = 5 := by omega
      rw [Ku.rec5 hv] at ha
      obtain ⟨bv, pv, vs, rfl, h1, h2, -⟩ := ha
      obtain ⟨ba, bc, rfl, h3, -⟩ := h1.form
      obtain ⟨pg, pc, rfl⟩ := row_form h2 (by decide)
      obtain ⟨ao', c', e1, hr⟩ := Ku.sees_rows h2
      cases e1
      obtain ⟨b, o, x, e2, hx, a9, c9, rfl, hi⟩ := hr 9 [3, 4] rfl
      cases e2
      exact ⟨ba, bc, pg, _, a9, c9, rfl, h3, hx, hi, hb⟩
theorem recp_any (ao : Option Addr) (cap : Nat) (w : World) (he : EdgesAt w ao Ku.ep) : Calls Try.prog 13 #[.agg #[.int .i64 6, .slice ao 9 cap]] w fun e w' => e = .returned (.tuple #[.agg #[.int .i64 0, .slice none 0 0, .slice none 0 0], .bool false, .int .i64 0]) ∧ Below w.heap.size w w' :=
  (precognise_any 6 ao cap Ku.ep w he (by decide)).mono fun e w' ⟨hc, hb⟩ => by
    rcases hc with ⟨hv, _⟩ | ⟨m, hv, hm, ha⟩
    · have h1 : Si.valid 6 Ku.ep = true := Si.valid_iff.2 Ku.valep
      rw [h1] at hv
      cases hv
    · obtain rfl : m = 6 := by omega
      rw [Ku.recp hv] at ha
      exact ⟨ha, hb⟩
theorem chains4_any (ao : Option Addr) (cap : Nat) (w : World) (he : EdgesAt w ao Ku.e4) : Calls Try.prog 9 #[.agg #[.int .i64 4, .slice ao 4 cap]] w fun e w' => ∃ a c, e = .returned (.tuple #[.slice a 2 c, .int .i64 0]) ∧ Ku.SeesL w' (.slice a 2 c) [[2, 0, 1, 2], [2, 3]] ∧ Below w.heap.size w w' :=
  (pchains_any 4 ao cap Ku.e4 w he (by decide)).mono fun e w' ⟨hc, hb⟩ => by
    rcases hc with ⟨hv, _⟩ | ⟨hv, v, us, rfl, hr⟩
    · have h1 : Si.valid 4 Ku.e4 = true := Si.valid_iff.2 Ku.vale4
      rw [h1] at hv
      cases hv
    · rw [Ku.rows4 hv] at hr
      obtain ⟨a, c, rfl⟩ := row_shape hr
      exact ⟨a, c, rfl, Ku.sees_rows hr, hb⟩
theorem same15_new {ao : Option Addr} {c k : Nat} {l : List Int} {W : World} (V : World) (hk : l.length = k) (h : IntsAt W ao l) (hb : Below W.heap.size W V) (hl : k ≤ 1000) :
    Calls Try.prog 23 #[.slice ao k c, .slice (some ⟨V.heap.size, 0, none⟩) k k] (V.alloc (.cells (l.map (Value.int .i64)).toArray 3)) fun e w' => e = .returned (.bool true) ∧ Below V.heap.size V w' := by
  have hb1 : Below V.heap.size V (V.alloc (.cells (l.map (Value.int .i64)).toArray 3)) := (Below.refl _ _).alloc (Nat.le_refl _) _
  have hi : IntsBlk (V.alloc (.cells (l.map (Value.int .i64)).toArray 3)) V.heap.size l := heap_alloc_new V _
  refine (sameints_any ao (some ⟨V.heap.size, 0, none⟩) c k k k l l _ hk hk ((h.later hb).later hb1) hi.at (by omega)).mono ?_
  rintro e w' ⟨h1, h2⟩
  exact ⟨by rw [h1]; simp, hb1.trans (h2.mono hb1.size)⟩
/-- The two lists that the fixed fact writes down. -/
theorem lits_any (v : Value) (V : World) (h : Ku.SeesL V v [[2, 0, 1, 2], [2, 3]]) :
    Calls Try.prog 12 #[v, .slice (some ⟨V.heap.size + 2, 0, none⟩) 2 2] (((V.alloc (.cells #[.int .i64 2, .int .i64 0, .int .i64 1, .int .i64 2] 3)).alloc (.cells #[.int .i64 2, .int .i64 3] 3)).alloc (.cells #[.slice (some ⟨V.heap.size, 0, none⟩) 4 4, .slice (some ⟨V.heap.size + 1, 0, none⟩) 2 2] 36)) fun e w' => e = .returned (.bool true) ∧ Below V.heap.size V w' := by
  obtain ⟨V1, hV1⟩ : ∃ V1, V1 = V.alloc (.cells #[.int .i64 2, .int .i64 0, .int .i64 1, .int .i64 2] 3) := ⟨_, rfl⟩
  obtain ⟨V2, hV2⟩ : ∃ V2, V2 = V1.alloc (.cells #[.int .i64 2, .int .i64 3] 3) := ⟨_, rfl⟩
  obtain ⟨V3, hV3⟩ : ∃ V3, V3 = V2.alloc (.cells #[.slice (some ⟨V.heap.size, 0, none⟩) 4 4, .slice (some ⟨V.heap.size + 1, 0, none⟩) 2 2] 36) := ⟨_, rfl⟩
  rw [← hV1, ← hV2, ← hV3]
  have b1 : Below V.heap.size V V1 := by rw [hV1]; exact (Below.refl _ _).alloc (Nat.le_refl _) _
  have b2 : Below V1.heap.size V1 V2 := by rw [hV2]; exact (Below.refl _ _).alloc (Nat.le_refl _) _
  have b3 : Below V2.heap.size V2 V3 := by rw [hV3]; exact (Below.refl _ _).alloc (Nat.le_refl _) _
  have s1 : V1.heap.size = V.heap.size + 1 := by rw [hV1]; simp
  have s2 : V2.heap.size = V.heap.size + 2 := by rw [hV2]; simp; omega
  have hb : Below V.heap.size V V3 := (b1.trans (b2.mono b1.size)).trans (b3.mono (by omega))
  have i1 : IntsBlk V1 V.heap.size [2, 0, 1, 2] := by rw [hV1]; exact heap_alloc_new V _
  have i2 : IntsBlk V2 (V.heap.size + 1) [2, 3] := by rw [hV2, ← s1]; exact heap_alloc_new V1 _
  have i3 : V3.heap[V.heap.size + 2]? = some (.cells #[.slice (some ⟨V.heap.size, 0, none⟩) 4 4, .slice (some ⟨V.heap.size + 1, 0, none⟩) 2 2] 36 (0, 0)) := by rw [hV3, ← s2]; exact heap_alloc_new V2 _
  obtain ⟨c0, c1, -⟩ := pair_cells i3
  refine (samelists_sees v (.slice (some ⟨V.heap.size + 2, 0, none⟩) 2 2) [[2, 0, 1, 2], [2, 3]] V3 (h.later hb) ⟨some ⟨V.heap.size + 2, 0, none⟩, 2, rfl, fun k l hl => ?_⟩ (by decide) (by decide)).mono ?_
  · match k, hl with
    | 0, hl =>
      cases hl
      exact ⟨_, 0, _, rfl, c0, some ⟨V.heap.size, 0, none⟩, 4, rfl, ((i1.later b2).later b3).at⟩
    | 1, hl =>
      cases hl
      exact ⟨_, 0, _, rfl, c1, some ⟨V.heap.size + 1, 0, none⟩, 2, rfl, (i2.later b3).at⟩
  · rintro e w' ⟨rfl, h2⟩
    exact ⟨rfl, hb.trans (h2.mono hb.size)⟩

set_option maxRecDepth 100000 in
set_option maxHeartbeats 16000000 in
theorem wakes15_any (w : World) : Calls Try.prog 8 #[] w fun e w' => e = .returned (.bool true) ∧ Below w.heap.size w w' := by
  have HC5 := Nu.hid (compl15_5 w)
  go_enter Try.func8, Try.ntmps8
  go_wp2_with (go_at_call 21; refine HC5.out.mono ?_; refine Hid.out ?_)
  refine Nu.hid ?_
  rintro e w1 ⟨a1, c1, rfl, he1, hb1⟩
  have HR5 := Nu.hid (rec5_any a1 c1 w1 he1)
  have HB1 := Nu.hid hb1
  clear he1 hb1
  go_wp2_with (go_at_call 13; refine HR5.out.mono ?_; refine Hid.out ?_)
  refine Nu.hid ?_
  rintro e w2 ⟨ba, bc, pg, pc, pa, p9, rfl, hi5, hx9, hi9, hb2⟩
  obtain ⟨V, hV⟩ : ∃ V, V = w2.alloc (.cells #[.int .i64 1, .slice ba 5 bc, .slice (some ⟨pg, 0, none⟩) 10 pc] 38) := ⟨_, rfl⟩
  have hbV : Below w2.heap.size w2 V := by rw [hV]; exact (Below.refl _ _).alloc (Nat.le_refl _) _
  have gV : V.heap[w2.heap.size]? = some (.cells #[.int .i64 1, .slice ba 5 bc, .slice (some ⟨pg, 0, none⟩) 10 pc] 38 (0, 0)) := by rw [hV]; exact heap_alloc_new w2 _
  have HV := Nu.hid hV
  have HK : Hid (∀ U : World, Below V.heap.size V U → (U.cell? ⟨w2.heap.size, 0, none⟩ = some (.int .i64 1) ∧ U.cell? ⟨w2.heap.size, 1, none⟩ = some (.slice ba 5 bc) ∧ U.cell? ⟨w2.heap.size, 2, none⟩ = some (.slice (some ⟨pg, 0, none⟩) 10 pc)) ∧ IntsAt U ba [0, 1, 2, 3, 4] ∧ U.cell? ⟨pg, 9, none⟩ = some (.slice pa 2 p9) ∧ IntsAt U pa [3, 4]) := fun U hU => by
    obtain ⟨k0, k1, k2, -⟩ := cells3_15 ((hU.block _ (lt_of_block gV)).trans gV)
    have hlt := block_lt_of_cell hx9
    have hb : Below w2.heap.size w2 U := hbV.trans (hU.mono hbV.size)
    exact ⟨⟨k0, k1, k2⟩, hi5.later hb, (hb.cell (p := ⟨pg, 9, none⟩) hlt).trans hx9, hi9.later hb⟩
  have HBV : Hid (Below w.heap.size w V) := by
    have := HB1.out.trans (hb2.mono HB1.out.size)
    exact this.trans (hbV.mono this.size)
  have HPR := Nu.hid (prism_any V)
  have hsV : w2.heap.size < V.heap.size := lt_of_block gV
  clear hV hbV gV hi5 hx9 hi9 hb2 HR5 HC5
  go_wp2_with (go_at_call 22; rw [← HV.out]; refine HPR.out.mono ?_; refine Hid.out ?_)
  refine Nu.hid ?_
  rintro e w3 ⟨b3, rfl, he3, hb3⟩
  have HRP := Nu.hid (recp_any (some ⟨b3, 0, none⟩) 9 w3 he3)
  have HB3 := Nu.hid hb3
  clear he3 hb3 HPR
  go_wp2_with (go_at_call 13; refine HRP.out.mono ?_; rintro e w4 ⟨rfl, hb4⟩; refine Hid.out ?_)
  refine Nu.hid ?_
  have HB4 := Nu.hid (HB3.out.trans (hb4.mono HB3.out.size))
  obtain ⟨X, hX⟩ : ∃ X, X = (w4.alloc (.cells #[.int .i64 0, .slice none 0 0, .slice none 0 0] 38)).alloc (.cells #[.int .i64 0, .int .i64 1, .int .i64 0, .int .i64 2, .int .i64 1, .int .i64 2, .int .i64 2, .int .i64 3] 57) := ⟨_, rfl⟩
  have hbX : Below w4.heap.size w4 X := by rw [hX]; exact ((Below.refl _ _).alloc (Nat.le_refl _) _).alloc (by simp) _
  have hE : EdgesAt X (some ⟨w4.heap.size + 1, 0, none⟩) Ku.e4 := by
    refine EdsBlk.at ?_
    have := heap_alloc_new (w4.alloc (.cells #[.int .i64 0, .slice none 0 0, .slice none 0 0] 38)) (.cells (flatE Ku.e4).toArray 57)
    rw [World.size_alloc] at this
    rw [hX]
    exact this
  have HX := Nu.hid hX
  have HBX := Nu.hid (HB4.out.trans (hbX.mono HB4.out.size))
  have HCH := Nu.hid (chains4_any (some ⟨w4.heap.size + 1, 0, none⟩) 4 X hE)
  clear hb4 hX hbX hE HRP
  go_wp2_with (go_at_call 9; rw [← HX.out]; refine HCH.out.mono ?_; refine Hid.out ?_)
  refine Nu.hid ?_
  rintro e w5 ⟨la, lc, rfl, hl5, hb5⟩
  have hbv5 := HBX.out.trans (hb5.mono HBX.out.size)
  obtain ⟨⟨k0, k1, k2⟩, hi5, hx9, hi9⟩ := HK.out w5 hbv5
  have HL5 := Nu.hid hl5
  have HI5 := Nu.hid hi5
  have HB5 := Nu.hid hbv5
  have HS1 : Hid (Calls Try.prog 23 #[.slice ba 5 bc, .slice (some ⟨w5.heap.size, 0, none⟩) 5 5] (w5.alloc (.cells #[.int .i64 0, .int .i64 1, .int .i64 2, .int .i64 3, .int .i64 4] 3)) fun e w' => e = .returned (.bool true) ∧ Below w5.heap.size w5 w') := same15_new (c := bc) (k := 5) w5 rfl hi5 (Below.refl _ _) (by omega)
  clear hl5 hi5 hi9 hx9 hb5 hbv5 HCH
  go_wp2_with (go_at_call 23; refine HS1.out.mono ?_; rintro e w6 ⟨rfl, hb6⟩; refine Hid.out ?_)
  refine Nu.hid ?_
  have hbv6 := HB5.out.trans (hb6.mono HB5.out.size)
  clear k0 k1 k2
  obtain ⟨⟨k0, k1, k2⟩, hi5, hx9, hi9⟩ := HK.out w6 hbv6
  have HB6 := Nu.hid hbv6
  have HL6 := Nu.hid (HL5.out.later hb6)
  have HS2 : Hid (Calls Try.prog 23 #[.slice pa 2 p9, .slice (some ⟨w6.heap.size, 0, none⟩) 2 2] (w6.alloc (.cells #[.int .i64 3, .int .i64 4] 3)) fun e w' => e = .returned (.bool true) ∧ Below w6.heap.size w6 w') := same15_new (c := p9) (k := 2) w6 rfl hi9 (Below.refl _ _) (by omega)
  clear hi5 hi9 hb6 hbv6 HS1
  go_wp2_with (go_at_call 23; refine HS2.out.mono ?_; rintro e w7 ⟨rfl, hb7⟩; refine Hid.out ?_)
  refine Nu.hid ?_
  have HB7 := Nu.hid (HB6.out.trans (hb7.mono HB6.out.size))
  have HS3 := Nu.hid (lits_any _ w7 (HL6.out.later hb7))
  clear k0 k1 k2 hx9 hb7 HS2
  go_wp2_with (go_at_call 12; refine HS3.out.mono ?_; rintro e w8 ⟨rfl, hb8⟩; refine Hid.out ?_)
  refine Nu.hid ?_
  have HB8 : Hid (Below w.heap.size w w8) := HBV.out.trans ((HB7.out.trans (hb8.mono HB7.out.size)).mono HBV.out.size)
  clear hb8
  go_wp2
  go_ret
  exact ⟨rfl, HB8.out⟩
end Go.Proofs.Ytdhaaodalchpkaa
