/-
  slices.Contains; Back, the program's and the document's own.
-/
import Derived.Test.YtponmjipbcmlhaaDfFor
import Derived.Deep.QuietTactic
import Derived.BigQuiet
import Derived.Deep.RegionHeld3
namespace Go.Proofs.Ytponmjipbcmlhaa
open Go.RowKit

namespace Df
/-- What Back answers. -/
def back (s : St) (x : Int) : Bool := if 0 ≤ x ∧ x < (s.ori.length : Int) then !decide (s.ori.getD x.toNat 0 ∈ s.par) else false
theorem back_in {s : St} {i : Nat} (h : i < s.ori.length) : back s i = !decide (s.ori.getD i 0 ∈ s.par) := by
  unfold back
  rw [if_pos (by omega), Int.toNat_natCast]
theorem back_no {s : St} {x : Int} (h : ¬ (0 ≤ x ∧ x < (s.ori.length : Int))) : back s x = false := by
  unfold back
  rw [if_neg h]
end Df

set_option maxRecDepth 100000 in
set_option maxHeartbeats 4000000 in
theorem index_any (ao : Option Addr) (n ca : Nat) (l : List Int) (x : Int) (w : World) (h : Lst w ao n ca l) (hn : n ≤ 17592186043904) :
    Calls Try.prog 48 #[.slice ao n ca, .int .i64 x] w fun e w' => ∃ r, e = .returned (.int .i64 r) ∧ ((0 ≤ r ∧ x ∈ l) ∨ (r = -1 ∧ x ∉ l)) ∧ w' = w := by
  have HL := Nu.hid h
  clear h
  go_enter Try.func48, Try.ntmps48
  go_wp2
  go_loopw [8] (fun c wr => ∃ k : Nat, k ≤ n ∧ c = .int .i64 k ∧ (∀ j, j < k → l[j]? ≠ some x) ∧ wr = w) (fun c _ => n - (intOf c).toNat)
  case atStart => exact ⟨0, Nat.zero_le _, rfl, fun j hj => by omega, rfl⟩
  case round =>
    obtain ⟨k, hk, rfl, hno, hwr⟩ := hrel
    obtain rfl := hwr.symm
    have HNO := Nu.hid hno
    have hlen := HL.out.len
    clear hno hwr
    by_cases hlt : k < n
    · have hlti : (k : Int) < (n : Int) := by omega
      have hk0 : (0 : Int) ≤ (k : Int) := by omega
      obtain ⟨y, hy⟩ : ∃ y, l[k]? = some y := ⟨_, List.getElem?_eq_getElem (by omega)⟩
      obtain ⟨b, o, rfl, c0⟩ := HL.out.ints k y hy
      have HY := Nu.hid hy
      clear hy hlen
      by_cases he : x = y
      · have t1 : (x == y) = true := by simp [he]
        have HXY := Nu.hid he
        clear he
        go_wp2
        go_ret
        exact ⟨_, rfl, .inl ⟨by omega, by rw [HXY.out]; exact List.mem_of_getElem? HY.out⟩, rfl⟩
      · have t1 : (x == y) = false := by simp [he]
        have HXY := Nu.hid he
        clear he
        go_wp2
        go_roundw
        case rel =>
          refine ⟨k + 1, by omega, by go_num, fun j hj => ?_, by trivial⟩
          by_cases hjk : j = k
          · subst hjk
            rw [HY.out]
            exact fun e => HXY.out (Option.some.inj e).symm
          · exact HNO.out j (by omega)
        case measure => simp [intOf]; omega
    · have hd : ¬ ((k : Int) < (n : Int)) := by omega
      have hno : x ∉ l := fun hm => by
        obtain ⟨j, hj⟩ := List.getElem?_of_mem hm
        have := (List.getElem?_eq_some_iff.1 hj).1
        exact HNO.out j (by omega) hj
      have HN := Nu.hid hno
      clear hno hlen
      go_wp2
      go_ret
      exact ⟨-1, rfl, .inr ⟨rfl, HN.out⟩, rfl⟩

set_option maxRecDepth 100000 in
set_option maxHeartbeats 4000000 in
theorem contains_any (ao : Option Addr) (n ca : Nat) (l : List Int) (x : Int) (w : World) (h : Lst w ao n ca l) (hn : n ≤ 17592186043904) :
    Calls Try.prog 29 #[.slice ao n ca, .int .i64 x] w fun e w' => e = .returned (.bool (decide (x ∈ l))) ∧ w' = w := by
  have hi := index_any ao n ca l x w h hn
  by_cases hx : x ∈ l
  · have hd : decide (x ∈ l) = true := by simp [hx]
    have HI : Hid (Calls Try.prog 48 #[.slice ao n ca, .int .i64 x] w fun e w' => ∃ r, e = .returned (.int .i64 r) ∧ 0 ≤ r ∧ w' = w) := hi.mono (by
      rintro e w' ⟨r, h1, ⟨h2, _⟩ | ⟨_, h2⟩, h3⟩
      · exact ⟨r, h1, h2, h3⟩
      · exact absurd hx h2)
    rw [hd]
    clear hi h hd hx
    go_enter Try.func29, Try.ntmps29
    go_wp2_with (go_at_call 48; refine HI.out.mono ?_; rintro e w1 ⟨r, rfl, hr, rfl⟩)
    go_ret
    exact ⟨rfl, rfl⟩
  · have hd : decide (x ∈ l) = false := by simp [hx]
    have HI : Hid (Calls Try.prog 48 #[.slice ao n ca, .int .i64 x] w fun e w' => e = .returned (.int .i64 (-1)) ∧ w' = w) := hi.mono (by
      rintro e w' ⟨r, h1, ⟨_, h2⟩ | ⟨rfl, _⟩, h3⟩
      · exact absurd h2 hx
      · exact ⟨h1, h3⟩)
    rw [hd]
    clear hi h hd hx
    go_enter Try.func29, Try.ntmps29
    go_wp2_with (go_at_call 48; refine HI.out.mono ?_; rintro e w1 ⟨rfl, rfl⟩)
    go_ret
    exact ⟨rfl, rfl⟩

set_option maxRecDepth 100000 in
set_option maxHeartbeats 4000000 in
theorem back_any (f : For) (s : Df.St) (x : Int) (w : World) (h : LstF w f s) :
    Calls Try.prog 17 #[f.val s, .int .i64 x] w fun e w' => e = .returned (.bool (Df.back s x)) ∧ Below w.heap.size w w' := by
  obtain ⟨a1, a2, a3, a4, c1, c2, c3, c4⟩ := f
  change Calls _ _ #[.agg #[.slice a1 s.par.length c1, .slice a2 s.hei.length c2, .slice a3 s.ord.length c3, .slice a4 s.ori.length c4], _] _ _
  obtain ⟨W, hW⟩ : ∃ W, W = w.alloc (.cells #[.slice a1 s.par.length c1, .slice a2 s.hei.length c2, .slice a3 s.ord.length c3, .slice a4 s.ori.length c4] 28) := ⟨_, rfl⟩
  have hB0 : Below w.heap.size w W := by rw [hW]; exact (Below.refl _ _).alloc (Nat.le_refl _) _
  have g1 : W.heap[w.heap.size]? = some (.cells #[.slice a1 s.par.length c1, .slice a2 s.hei.length c2, .slice a3 s.ord.length c3, .slice a4 s.ori.length c4] 28 (0, 0)) := by
    rw [hW]
    exact heap_alloc_new w _
  have hF := h.later hB0
  obtain ⟨x0, x1, x2, x3, -⟩ := four_cells g1
  have hn4 := h.n4
  rw [hW] at x0 x1 x2 x3
  by_cases hx : 0 ≤ x ∧ x < (s.ori.length : Int)
  · obtain ⟨i, rfl⟩ : ∃ i : Nat, x = (i : Int) := ⟨x.toNat, by omega⟩
    have hi : i < s.ori.length := by omega
    obtain ⟨i0, i1⟩ := hx
    rw [Df.back_in hi]
    obtain ⟨y, hy⟩ : ∃ y, s.ori[i]? = some y := ⟨_, List.getElem?_eq_getElem hi⟩
    have hyd : s.ori.getD i 0 = y := by rw [List.getD_eq_getElem?_getD, hy]; rfl
    rw [hyd]
    obtain ⟨b, o, ha4, d4⟩ := hF.l4.ints i y hy
    dsimp only at ha4
    subst ha4
    have HCO := Nu.hid fun V (hV : Below W.heap.size W V) => contains_any a1 s.par.length c1 s.par y V (hF.l1.later hV) h.n1
    have hbl := block_lt_of_cell d4
    have HS : Hid (∀ V, Below W.heap.size W V → (V.cell? ⟨w.heap.size, 0, none⟩ = some (.slice a1 s.par.length c1) ∧ V.cell? ⟨w.heap.size, 3, none⟩ = some (.slice (some ⟨b, o, none⟩) s.ori.length c4) ∧ V.cell? ⟨b, o + i, none⟩ = some (.int .i64 y))) := fun V hV => by
      have k1 := (hV.block w.heap.size (lt_of_block g1)).trans g1
      obtain ⟨q0, _, _, q3, -⟩ := four_cells k1
      exact ⟨q0, q3, (hV.cell (p := ⟨b, o + i, none⟩) hbl).trans d4⟩
    have hbd : Below W.heap.size W W.drew := (Below.refl _ _).drew
    have HWW := Nu.hid hW
    have HB0 := Nu.hid hB0
    clear h hF g1 hB0 hy hyd x0 x1 x2 hW d4
    go_enter Try.func17, Try.ntmps17
    go_wp2_with fail
    rw [← HWW.out]
    go_region_held3 (fun V => V.cell? ⟨w.heap.size, 0, none⟩ = some (.slice a1 s.par.length c1) ∧ V.cell? ⟨w.heap.size, 3, none⟩ = some (.slice (some ⟨b, o, none⟩) s.ori.length c4) ∧ V.cell? ⟨b, o + i, none⟩ = some (.int .i64 y))
      (exact HS.out _ (by first | assumption | exact hbd))
      ((go_at_call 29; refine (HCO.out _ (by first | assumption | exact hbd)).mono ?_; rintro e V1 ⟨rfl, rfl⟩))
    all_goals
      go_wp2
      go_ret
      exact ⟨rfl, HB0.out.trans (hbd.mono HB0.out.size)⟩
  · rw [Df.back_no hx]
    have HB0 := Nu.hid hB0
    rw [hW] at HB0
    by_cases h0 : x < 0
    · clear h hF g1 hB0 hW hx
      go_enter Try.func17, Try.ntmps17
      go_wp2
      go_ret
      exact ⟨rfl, HB0.out⟩
    · have h1 : (s.ori.length : Int) ≤ x := by omega
      clear h hF g1 hB0 hW hx
      go_enter Try.func17, Try.ntmps17
      go_wp2
      go_ret
      exact ⟨rfl, HB0.out⟩

set_option maxRecDepth 100000 in
set_option maxHeartbeats 4000000 in
theorem rback_any (f : For) (s : Df.St) (x : Int) (w : World) (h : LstF w f s) :
    Calls Try.prog 20 #[f.val s, .int .i64 x] w fun e w' => e = .returned (.bool (Df.back s x)) ∧ Below w.heap.size w w' := by
  obtain ⟨a1, a2, a3, a4, c1, c2, c3, c4⟩ := f
  change Calls _ _ #[.agg #[.slice a1 s.par.length c1, .slice a2 s.hei.length c2, .slice a3 s.ord.length c3, .slice a4 s.ori.length c4], _] _ _
  obtain ⟨W, hW⟩ : ∃ W, W = w.alloc (.cells #[.slice a1 s.par.length c1, .slice a2 s.hei.length c2, .slice a3 s.ord.length c3, .slice a4 s.ori.length c4] 28) := ⟨_, rfl⟩
  have hB0 : Below w.heap.size w W := by rw [hW]; exact (Below.refl _ _).alloc (Nat.le_refl _) _
  have g1 : W.heap[w.heap.size]? = some (.cells #[.slice a1 s.par.length c1, .slice a2 s.hei.length c2, .slice a3 s.ord.length c3, .slice a4 s.ori.length c4] 28 (0, 0)) := by
    rw [hW]
    exact heap_alloc_new w _
  have hF := h.later hB0
  obtain ⟨x0, x1, x2, x3, -⟩ := four_cells g1
  have hn4 := h.n4
  have hn1 := h.n1
  rw [hW] at x0 x1 x2 x3
  by_cases hx : 0 ≤ x ∧ x < (s.ori.length : Int)
  · obtain ⟨i, rfl⟩ : ∃ i : Nat, x = (i : Int) := ⟨x.toNat, by omega⟩
    have hi : i < s.ori.length := by omega
    obtain ⟨i0, i1⟩ := hx
    rw [Df.back_in hi]
    obtain ⟨y, hy⟩ : ∃ y, s.ori[i]? = some y := ⟨_, List.getElem?_eq_getElem hi⟩
    have hyd : s.ori.getD i 0 = y := by rw [List.getD_eq_getElem?_getD, hy]; rfl
    rw [hyd]
    obtain ⟨bb, hbb⟩ : ∃ bb, (!decide (y ∈ s.par)) = bb := ⟨_, rfl⟩
    rw [hbb]
    have HBB := Nu.hid hbb
    clear hbb
    obtain ⟨b, o, ha4, d4⟩ := hF.l4.ints i y hy
    dsimp only at ha4
    subst ha4
    have hbl := block_lt_of_cell d4
    have HS : Hid (∀ V, Below W.heap.size W V → (V.cell? ⟨w.heap.size, 0, none⟩ = some (.slice a1 s.par.length c1) ∧ V.cell? ⟨w.heap.size, 3, none⟩ = some (.slice (some ⟨b, o, none⟩) s.ori.length c4) ∧ V.cell? ⟨b, o + i, none⟩ = some (.int .i64 y))) := fun V hV => by
      have k1 := (hV.block w.heap.size (lt_of_block g1)).trans g1
      obtain ⟨q0, _, _, q3, -⟩ := four_cells k1
      exact ⟨q0, q3, (hV.cell (p := ⟨b, o + i, none⟩) hbl).trans d4⟩
    have HL1 := Nu.hid hF.l1
    have HWW := Nu.hid hW
    have HB0 := Nu.hid hB0
    clear h hF g1 hB0 hy hyd x0 x1 x2 hW d4
    go_enter Try.func20, Try.ntmps20
    go_wp2
    rw [← HWW.out]
    clear x3
    go_loopw [5] (fun c wr => ∃ k : Nat, k ≤ s.par.length ∧ c = .int .i64 k ∧ (∀ j, j < k → s.par[j]? ≠ some y) ∧ Below W.heap.size W wr) (fun c _ => s.par.length - (intOf c).toNat)
    case atStart => exact ⟨0, Nat.zero_le _, rfl, fun j hj => by omega, Below.refl _ _⟩
    case round =>
      obtain ⟨k, hk, rfl, hno, hb⟩ := hrel
      obtain ⟨q0, q3, q4⟩ := HS.out wr hb
      have HNO := Nu.hid hno
      have HB := Nu.hid hb
      clear hno
      by_cases hlt : k < s.par.length
      · have hlti : (k : Int) < (s.par.length : Int) := by omega
        have hk0 : (0 : Int) ≤ (k : Int) := by omega
        obtain ⟨z, hz⟩ : ∃ z, s.par[k]? = some z := ⟨_, List.getElem?_eq_getElem hlt⟩
        obtain ⟨b1, o1, ha1, d0⟩ := (HL1.out.later hb).ints k z hz
        subst ha1
        have HZ := Nu.hid hz
        clear hz hb
        by_cases he : z = y
        · have t1 : (z == y) = true := by simp [he]
          have hv : bb = false := by
            have := List.mem_of_getElem? HZ.out
            rw [he] at this
            rw [← HBB.out]
            simpa using this
          subst hv
          clear he
          go_wp2_with fail
          go_quiet (fail)
          go_wp2
          go_ret
          exact ⟨rfl, HB0.out.trans ((below_drewN HB.out _).mono HB0.out.size)⟩
        · have t1 : (z == y) = false := by simp [he]
          have HXY := Nu.hid he
          clear he
          go_wp2_with fail
          go_quiet (fail)
          go_wp2
          go_roundw
          case rel =>
            refine ⟨k + 1, by omega, by go_num, fun j hj => ?_, below_drewN HB.out _⟩
            by_cases hjk : j = k
            · subst hjk
              rw [HZ.out]
              exact fun e => HXY.out (Option.some.inj e)
            · exact HNO.out j (by omega)
          case measure => simp [intOf]; omega
      · have hd : ¬ ((k : Int) < (s.par.length : Int)) := by omega
        have hv : bb = true := by
          rw [← HBB.out]
          simp only [Bool.not_eq_true', decide_eq_false_iff_not]
          intro hm
          obtain ⟨j, hj⟩ := List.getElem?_of_mem hm
          have := (List.getElem?_eq_some_iff.1 hj).1
          exact HNO.out j (by omega) hj
        subst hv
        clear hb
        go_wp2
        go_ret
        exact ⟨rfl, HB0.out.trans (HB.out.mono HB0.out.size)⟩
  · rw [Df.back_no hx]
    have HB0 := Nu.hid hB0
    rw [hW] at HB0
    by_cases h0 : x < 0
    · clear h hF g1 hB0 hW hx
      go_enter Try.func20, Try.ntmps20
      go_wp2
      go_ret
      exact ⟨rfl, HB0.out⟩
    · have h1 : (s.ori.length : Int) ≤ x := by omega
      clear h hF g1 hB0 hW hx
      go_enter Try.func20, Try.ntmps20
      go_wp2
      go_ret
      exact ⟨rfl, HB0.out⟩

end Go.Proofs.Ytponmjipbcmlhaa
