/-
  Lists that can be read, wherever they lie; the document's Same of layer 15.
-/
import Derived.Test.YtdhaaodalchpkaaKuP
import Derived.Test.YtdhaaodalchpkaaSiSameI
import Derived.Deep.RegionHeld3
namespace Go.Proofs.Ytdhaaodalchpkaa
open Go.RowKit Go.Sort

namespace Ku
/-- A value that a list of lists can be read from. -/
def SeesL (w : World) (v : Value) (ls : List (List Int)) : Prop := ∃ ao c, v = .slice ao ls.length c ∧ ∀ (k : Nat) (l : List Int), ls[k]? = some l → ∃ b o x, ao = some ⟨b, o, none⟩ ∧ w.cell? ⟨b, o + k, none⟩ = some x ∧ SeesI w x l
theorem SeesL.later {w w' : World} {v : Value} {ls : List (List Int)} (h : SeesL w v ls) (hb : Below w.heap.size w w') : SeesL w' v ls := by
  obtain ⟨ao, c, e, hr⟩ := h
  refine ⟨ao, c, e, fun k l hl => ?_⟩
  obtain ⟨b, o, x, e1, hc, hs⟩ := hr k l hl
  exact ⟨b, o, x, e1, (hb.cell (p := ⟨b, o + k, none⟩) (block_lt_of_cell hc)).trans hc, hs.later hb⟩
theorem sees_rows {w : World} {B : Nat} {v : Value} {vs : List Value} {ls : List (List Int)} (h : RowsZ w B v vs ls) : SeesL w v ls := by
  obtain ⟨ao, c, rfl⟩ := row_shape h
  refine ⟨ao, c, rfl, fun k l hl => ?_⟩
  obtain ⟨x, hx⟩ := h.at' hl
  obtain ⟨g, c', e, hc⟩ := krow_at h hx
  cases e
  obtain ⟨xa, xc, hxe, hxi, -⟩ := (h.row k x l hx hl).form
  exact ⟨g, 0, x, rfl, by rw [Nat.zero_add]; exact hc, xa, xc, hxe, hxi⟩
theorem sees_own {w : World} {B : Nat} {v : Value} {l : List Int} (h : OwnZ w B v l) : SeesI w v l := by
  obtain ⟨xa, xc, hxe, hxi, -⟩ := h.form
  exact ⟨xa, xc, hxe, hxi⟩
end Ku

set_option maxRecDepth 100000 in
set_option maxHeartbeats 8000000 in
/-- Lists of lists that read alike are the same. -/
theorem samelists_sees (v v' : Value) (ls : List (List Int)) (w : World) (h : Ku.SeesL w v ls) (h' : Ku.SeesL w v' ls) (hl : ls.length ≤ 4611686018427387904) (hll : ∀ l ∈ ls, l.length ≤ 4611686018427387904) :
    Calls Try.prog 12 #[v, v'] w fun e w' => e = .returned (.bool true) ∧ Below w.heap.size w w' := by
  obtain ⟨ao, c, rfl, hr⟩ := id h
  obtain ⟨ao', c', rfl, hr'⟩ := id h'
  have H := Nu.hid hr
  have H' := Nu.hid hr'
  have HLL := Nu.hid hll
  have j1 : ((ls.length : Int) != (ls.length : Int)) = false := by simp
  clear h h' hll hr hr'
  go_enter Try.func12, Try.ntmps12
  go_wp2
  go_loopw [5] (fun cv wr => ∃ k : Nat, k ≤ ls.length ∧ cv = .int .i64 (k : Int) ∧ Below w.heap.size w wr) (fun cv _ => ls.length - (intOf cv).toNat)
  case atStart => exact ⟨0, Nat.zero_le _, rfl, Below.refl _ _⟩
  case round =>
    obtain ⟨k, hk, rfl, hb⟩ := hrel
    have HB := Nu.hid hb
    by_cases hlt : k < ls.length
    · have hlti : (k : Int) < (ls.length : Int) := by omega
      have hk0 : (0 : Int) ≤ (k : Int) := by omega
      obtain ⟨l, hlk⟩ : ∃ l, ls[k]? = some l := ⟨_, List.getElem?_eq_getElem hlt⟩
      obtain ⟨g, go, x, rfl, cx0, sx⟩ := H.out k l hlk
      obtain ⟨g', go', y, rfl, cy0, sy⟩ := H'.out k l hlk
      obtain ⟨xo, xc, hxe, hxa0⟩ := sx
      obtain ⟨yo, yc, hye, hya0⟩ := sy
      subst hxe
      subst hye
      have cx := (hb.cell (p := ⟨g, go + k, none⟩) (block_lt_of_cell cx0)).trans cx0
      have cy := (hb.cell (p := ⟨g', go' + k, none⟩) (block_lt_of_cell cy0)).trans cy0
      have hxa := hxa0.later hb
      have hya := hya0.later hb
      have hsz : l.length ≤ 4611686018427387904 := HLL.out l (List.mem_of_getElem? hlk)
      have hsame : ∀ W, Below wr.heap.size wr W → Calls Try.prog 23 #[.slice xo l.length xc, .slice yo l.length yc] W fun e w' => e = .returned (.bool true) ∧ Below W.heap.size W w' := fun W hbW => by
        refine (sameints_any xo yo xc yc l.length l.length l l W rfl rfl (hxa.later hbW) (hya.later hbW) hsz).mono ?_
        rintro e w' ⟨h1, h2⟩
        exact ⟨by rw [h1]; simp, h2⟩
      have HSAME := Nu.hid hsame
      obtain ⟨p1, hp1⟩ : ∃ p1, l.length = p1 := ⟨_, rfl⟩
      rw [hp1] at cx cy HSAME
      have hS : ∀ W, Below wr.heap.size wr W → (W.cell? ⟨g, go + k, none⟩ = some (.slice xo p1 xc) ∧ W.cell? ⟨g', go' + k, none⟩ = some (.slice yo p1 yc) ∧ Below wr.heap.size wr W) := fun W hbW =>
        ⟨(hbW.cell (p := ⟨g, go + k, none⟩) (block_lt_of_cell cx)).trans cx, (hbW.cell (p := ⟨g', go' + k, none⟩) (block_lt_of_cell cy)).trans cy, hbW⟩
      have HS := Nu.hid hS
      have hbr : Below wr.heap.size wr wr.drew := (Below.refl _ _).drew
      clear hxa hya hlk hb hsame hS hp1 hsz cx0 cy0 hxa0 hya0
      go_wp2_with fail
      go_region_held3 (fun W => W.cell? ⟨g, go + k, none⟩ = some (.slice xo p1 xc) ∧ W.cell? ⟨g', go' + k, none⟩ = some (.slice yo p1 yc) ∧ Below wr.heap.size wr W)
        (exact HS.out _ (by first | assumption | exact hbr))
        ((go_at_call 23; refine (HSAME.out _ (by first | assumption | exact hbr)).mono ?_; rintro e w6 ⟨rfl, hbs⟩; have hbz : Below wr.heap.size wr w6 := Below.trans (by first | assumption | exact hbr) (hbs.mono (Below.size (by first | assumption | exact hbr)))))
      have HBZ := Nu.hid (HB.out.trans (hbz.mono HB.out.size))
      clear hbz hbs HSAME HS hbr
      go_wp2
      go_roundw
      case rel => exact ⟨k + 1, by omega, by go_num, HBZ.out⟩
      case measure => simp [intOf]; omega
    · have hd : ¬ ((k : Int) < (ls.length : Int)) := by omega
      clear hb
      go_wp2
      go_ret
      exact ⟨rfl, HB.out⟩

theorem cells3_15 {w : World} {b : Nat} {t : TypeId} {x y z : Value} (h : w.heap[b]? = some (.cells #[x, y, z] t (0, 0))) : w.cell? ⟨b, 0, none⟩ = some x ∧ w.cell? ⟨b, 1, none⟩ = some y ∧ w.cell? ⟨b, 2, none⟩ = some z ∧ ∀ i, w.frozen? ⟨b, i, none⟩ = false := by
  refine ⟨by simp [World.cell?, h], by simp [World.cell?, h], by simp [World.cell?, h], fun i => ?_⟩
  simp [World.frozen?, h]

set_option maxRecDepth 100000 in
set_option maxHeartbeats 8000000 in
theorem ksame_any (kd : Int) (ao bo ap bp : Option Addr) (ca cb cp cq q p : Nat) (l : List Int) (ls : List (List Int)) (w : World) (hq : l.length = q) (hp : ls.length = p) (h1 : IntsAt w ao l) (h2 : IntsAt w bo l) (h3 : Ku.SeesL w (.slice ap p cp) ls) (h4 : Ku.SeesL w (.slice bp p cq) ls)
    (hl : q ≤ 4611686018427387904) (hpl : p ≤ 4611686018427387904) (hll : ∀ l ∈ ls, l.length ≤ 4611686018427387904) :
    Calls Try.prog 15 #[.agg #[.int .i64 kd, .slice ao q ca, .slice ap p cp], .agg #[.int .i64 kd, .slice bo q cb, .slice bp p cq]] w fun e w' => e = .returned (.bool true) ∧ Below w.heap.size w w' := by
  obtain ⟨W1, hW1⟩ : ∃ W1, W1 = w.alloc (.cells #[.int .i64 kd, .slice ao q ca, .slice ap p cp] 38) := ⟨_, rfl⟩
  obtain ⟨W, hW⟩ : ∃ W, W = W1.alloc (.cells #[.int .i64 kd, .slice bo q cb, .slice bp p cq] 38) := ⟨_, rfl⟩
  have hsz : W1.heap.size = w.heap.size + 1 := by rw [hW1]; simp
  have g1 : W1.heap[w.heap.size]? = some (.cells #[.int .i64 kd, .slice ao q ca, .slice ap p cp] 38 (0, 0)) := by rw [hW1]; exact heap_alloc_new w _
  have hB1 : Below w.heap.size w W1 := by rw [hW1]; exact (Below.refl _ _).alloc (Nat.le_refl _) _
  have hB2 : Below W1.heap.size W1 W := by rw [hW]; exact (Below.refl _ _).alloc (Nat.le_refl _) _
  have hB0 : Below w.heap.size w W := hB1.trans (hB2.mono hB1.size)
  have G1 := Nu.hid (blk_later15 g1 hB2)
  have g2 : W.heap[w.heap.size + 1]? = some (.cells #[.int .i64 kd, .slice bo q cb, .slice bp p cq] 38 (0, 0)) := by rw [hW, ← hsz]; exact heap_alloc_new W1 _
  have G2 := Nu.hid g2
  have hW' : W = (w.alloc (.cells #[.int .i64 kd, .slice ao q ca, .slice ap p cp] 38)).alloc (.cells #[.int .i64 kd, .slice bo q cb, .slice bp p cq] 38) := by rw [hW, hW1]
  have HW := Nu.hid hW'
  have HS1 : Hid (Calls Try.prog 23 #[.slice ao q ca, .slice bo q cb] W fun e w' => e = .returned (.bool true) ∧ Below W.heap.size W w') := by
    refine Nu.hid ?_
    refine (sameints_any ao bo ca cb q q l l W hq hq (h1.later hB0) (h2.later hB0) hl).mono ?_
    rintro e w' ⟨h1, h2⟩
    exact ⟨by rw [h1]; simp, h2⟩
  have H3 := Nu.hid (h3.later hB0)
  have H4 := Nu.hid (h4.later hB0)
  have HB0 := Nu.hid hB0
  have HP := Nu.hid hp
  have HLL := Nu.hid hll
  obtain ⟨c0, c1, c2, -⟩ := cells3_15 G1.out
  obtain ⟨d0, d1, d2, -⟩ := cells3_15 G2.out
  rw [hW'] at c0 c1 c2 d0 d1 d2
  clear hW1 hW hW' hsz g1 g2 hB1 hB2 hB0 h1 h2 h3 h4 hp hll hq
  have k1 : (kd == kd) = true := by simp
  go_enter Try.func15, Try.ntmps15
  go_wp2_with (go_at_call 23; rw [← HW.out]; refine HS1.out.mono ?_; refine Hid.out ?_)
  refine Nu.hid ?_
  rintro e w1 ⟨rfl, hb1⟩
  have HB1 := Nu.hid hb1
  have HS2 := Nu.hid (samelists_sees (.slice ap p cp) (.slice bp p cq) ls w1 (H3.out.later hb1) (H4.out.later hb1) (by rw [HP.out]; exact hpl) HLL.out)
  have hbw : Below w.heap.size w w1 := HB0.out.trans (hb1.mono HB0.out.size)
  have HBW := Nu.hid hbw
  have G1' := Nu.hid (blk_later15 G1.out hb1)
  have G2' := Nu.hid (blk_later15 G2.out hb1)
  clear c0 c1 c2 d0 d1 d2 hb1 hbw
  obtain ⟨c0, c1, c2, -⟩ := cells3_15 G1'.out
  obtain ⟨d0, d1, d2, -⟩ := cells3_15 G2'.out
  go_wp2_with (go_at_call 12; refine HS2.out.mono ?_; refine Hid.out ?_)
  refine Nu.hid ?_
  rintro e w2 ⟨rfl, hb2⟩
  have HBW2 := Nu.hid (HBW.out.trans (hb2.mono HBW.out.size))
  have G1'' := Nu.hid (blk_later15 G1'.out hb2)
  have G2'' := Nu.hid (blk_later15 G2'.out hb2)
  clear c0 c1 c2 d0 d1 d2 hb2
  obtain ⟨c0, c1, c2, -⟩ := cells3_15 G1''.out
  obtain ⟨d0, d1, d2, -⟩ := cells3_15 G2''.out
  go_wp2
  go_ret
  exact ⟨by simp, HBW2.out⟩

end Go.Proofs.Ytdhaaodalchpkaa
