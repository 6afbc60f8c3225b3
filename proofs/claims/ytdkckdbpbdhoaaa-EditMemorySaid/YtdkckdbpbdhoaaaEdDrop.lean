/-
  Edges without one of them.
-/
import Derived.Test.YtdkckdbpbdhoaaaEdM
import Derived.Test.YtdkckdbpbdhoaaaSiEq
namespace Go.Proofs.Ytdkckdbpbdhoaaa
open Go.RowKit Go.Sort

theorem Ed.erase_no {l : List (Int × Int)} {x p : Int × Int} (h : x ∉ l) (hp : p ≠ x) : (l ++ [p]).erase x = l.erase x ++ [p] := by
  rw [List.erase_append_right _ h, List.erase_of_not_mem h]
  congr 1
  rw [List.erase_cons_tail (by simpa using hp)]
  rfl
theorem Ed.erase_it {l : List (Int × Int)} {x : Int × Int} (h : x ∉ l) : (l ++ [x]).erase x = l.erase x := by
  rw [List.erase_append_right _ h, List.erase_of_not_mem h]
  simp
theorem Ed.erase_in {l : List (Int × Int)} {x p : Int × Int} (h : x ∈ l) : (l ++ [p]).erase x = l.erase x ++ [p] := List.erase_append_left _ h

set_option maxRecDepth 100000 in
set_option maxHeartbeats 4000000 in
theorem drop_any (ao : Option Addr) (cap gb : Nat) (es : List (Int × Int)) (x : Int × Int) (w : World) (he : EdgesAt w ao es) (hl : es.length ≤ 4194304) (h0 : 0 < es.length) (hg : w.heap[gb]? = some (.cells #[.int .i64 x.1, .int .i64 x.2] 26 (0, 0))) :
    Calls Try.prog 38 #[.slice ao es.length cap, .slice (some ⟨gb, 0, none⟩) 1 1] w fun e w' => ∃ v, e = .returned v ∧ OwnE w' w.heap.size v (es.erase x) ∧ Below w.heap.size w w' := by
  obtain ⟨i0, hi, hz0, hz1, hz2⟩ := info_parts Try.infoEdge
  have HE := Nu.hid he
  have HGB := Nu.hid hg
  have hgl := lt_of_block hg
  obtain ⟨ce, hce⟩ : ∃ c : Nat, (es.length : Int) - 1 = (c : Int) := ⟨es.length - 1, by omega⟩
  have hce2 : ce ≤ 4194304 := by omega
  clear he hg
  go_enter Try.func38, Try.ntmps38
  go_wp2_with (at_make; refine wpList_make_own _ rfl _ _ 22 rfl w.heap.size 26 i0 (.agg #[.int .i64 0, .int .i64 0]) 2 Try.underlying22 hi hz0 hz1 _ _ _ ce rfl rfl (by first | exact hce | (rw [hce]; rfl) | rfl) (by rw [hz2]; omega) (by unfold maxLen; omega) (Nat.le_refl _) ?_; refine Hid.out ?_)
  refine Nu.hid ?_
  intro w1 hrow1 hg1
  have HROW1 : Hid (OwnE w1 w.heap.size (.slice (some ⟨w.heap.size, 0, none⟩) 0 ce) []) := hrow1
  have hb1 : Below w.heap.size w w1 := (Below.refl _ _).grown hg1 (Nat.le_refl _) (fun j hj => by cases hj)
  have HB1 := Nu.hid hb1
  clear hrow1 hg1 hb1 hce
  go_wp2
  go_loopw [1, 5, 16] (fun s v c wr => ∃ (k : Nat) (L : List (Int × Int)), k ≤ es.length ∧ c = .int .i64 k ∧ ((s = .slice (some ⟨gb, 0, none⟩) 1 1 ∧ x ∉ es.take k) ∨ (s = .slice (some ⟨gb, 0, none⟩) 0 0 ∧ x ∈ es.take k)) ∧ L = (es.take k).erase x ∧ OwnE wr w.heap.size v L ∧ Below w.heap.size w wr) (fun _ _ c _ => es.length - (intOf c).toNat)
  case atStart => exact ⟨0, [], Nat.zero_le _, rfl, .inl ⟨rfl, by simp⟩, by simp, HROW1.out, HB1.out⟩
  case round =>
    obtain ⟨k, L, hk, rfl, hs, hL, hrow, hb⟩ := hrel
    have HROW := Nu.hid hrow
    have HB := Nu.hid hb
    have HL := Nu.hid hL
    have hs0 : w.heap.size ≤ wr.heap.size := hb.size
    have HGW := Nu.hid ((hb.block gb hgl).trans HGB.out)
    have hglw : gb < wr.heap.size := by omega
    obtain ⟨g0, g1, -⟩ := pair_cells HGW.out
    have hLl : L.length ≤ k := by
      rw [hL]
      refine Nat.le_trans (List.length_erase_le) ?_
      rw [List.length_take]
      omega
    by_cases hlt : k < es.length
    · have hlti : (k : Int) < (es.length : Int) := by omega
      have hk0 : (0 : Int) ≤ (k : Int) := by omega
      obtain ⟨p, hp⟩ : ∃ p, es[k]? = some p := ⟨_, List.getElem?_eq_getElem hlt⟩
      obtain ⟨b, o, rfl, c0, c1⟩ := (HE.out.later hb) k p hp
      have hbl : b < wr.heap.size := block_lt_of_cell c0
      have HT := Nu.hid (Si.take_snoc hp)
      obtain ⟨p1, p2⟩ := p
      obtain ⟨x1, x2⟩ := x
      dsimp only at c0 c1 g0 g1
      clear hrow hb hL hp
      rcases hs with ⟨rfl, hx⟩ | ⟨rfl, hx⟩
      · have HX := Nu.hid hx
        clear hx
        by_cases hpx : (x1, x2) = (p1, p2)
        · have hbe : (x1 == p1 && x2 == p2) = true := by cases hpx; simp
          have HPX := Nu.hid hpx
          clear hpx
          go_wp2_with fail
          have eqP := eqEdge
          go_quiet (fail)
          clear eqP
          go_wp2
          go_roundw
          case rel =>
            refine ⟨k + 1, L, by omega, by go_num, .inr ⟨rfl, by rw [HT.out, HPX.out]; simp⟩, ?_, HROW.out.alloc _, below_drewN (HB.out.alloc hs0 _) _⟩
            have hx := HX.out
            rw [HL.out, HT.out]
            rw [HPX.out] at hx ⊢
            exact (Ed.erase_it hx).symm
          case measure => simp [intOf]; omega
        · have hbe : (x1 == p1 && x2 == p2) = false := by
            by_cases e1 : x1 = p1
            · have : x2 ≠ p2 := fun e2 => hpx (by rw [e1, e2])
              simp [this]
            · simp [e1]
          have HPX := Nu.hid hpx
          clear hpx
          go_wp2_with fail
          have eqP := eqEdge
          go_quiet (fail)
          clear eqP
          have HEB : Hid ((((wr.alloc (.cells #[.int .i64 p1, .int .i64 p2] 26)).drewN nq)).heap[wr.heap.size]? = some (.cells #[.int .i64 p1, .int .i64 p2] 26 (0, 0))) := heap_alloc_new wr _
          have HB2 := Nu.hid (below_drewN (HB.out.alloc hs0 (.cells #[.int .i64 p1, .int .i64 p2] 26)) nq)
          have HROW2 : Hid (OwnE ((wr.alloc (.cells #[.int .i64 p1, .int .i64 p2] 26)).drewN nq) w.heap.size u5 L) := HROW.out.alloc _
          generalize (wr.alloc (.cells #[.int .i64 p1, .int .i64 p2] 26)).drewN nq = w2 at HEB HB2 HROW2 ⊢
          obtain ⟨e0, e1, -⟩ := pair_cells HEB.out
          have hs2 : w.heap.size ≤ w2.heap.size := HB2.out.size
          have hsw2 := lt_of_block HEB.out
          go_wp2_with (at_builtin; refine wpList_pushE rfl _ _ rfl _ w.heap.size _ L p1 p2 HROW2.out hs2 (by omega) rfl rfl ?_; refine Hid.out ?_)
          refine Nu.hid ?_
          intro v' w3 hrow3 hb3
          have HROW3 := Nu.hid hrow3
          have HB3 := Nu.hid (HB2.out.trans hb3)
          clear hrow3 hb3
          go_wp2
          go_roundw
          case rel =>
            have hx := HX.out
            have hnx : (x1, x2) ∉ es.take (k + 1) := by
              rw [HT.out, List.mem_append, List.mem_singleton]
              rintro (h | h)
              · exact hx h
              · exact HPX.out h
            exact ⟨k + 1, _, by omega, by go_num, .inl ⟨rfl, hnx⟩, by rw [HL.out, HT.out]; exact (Ed.erase_no hx (fun h => HPX.out h.symm)).symm, HROW3.out, HB3.out⟩
          case measure => simp [intOf]; omega
      · have HX := Nu.hid hx
        clear hx
        go_wp2_with fail
        have eqP := eqEdge
        go_quiet (fail)
        clear eqP
        have HEB : Hid ((((wr.alloc (.cells #[.int .i64 p1, .int .i64 p2] 26)).drewN nq)).heap[wr.heap.size]? = some (.cells #[.int .i64 p1, .int .i64 p2] 26 (0, 0))) := heap_alloc_new wr _
        have HB2 := Nu.hid (below_drewN (HB.out.alloc hs0 (.cells #[.int .i64 p1, .int .i64 p2] 26)) nq)
        have HROW2 : Hid (OwnE ((wr.alloc (.cells #[.int .i64 p1, .int .i64 p2] 26)).drewN nq) w.heap.size u5 L) := HROW.out.alloc _
        generalize (wr.alloc (.cells #[.int .i64 p1, .int .i64 p2] 26)).drewN nq = w2 at HEB HB2 HROW2 ⊢
        obtain ⟨e0, e1, -⟩ := pair_cells HEB.out
        have hs2 : w.heap.size ≤ w2.heap.size := HB2.out.size
        have hsw2 := lt_of_block HEB.out
        go_wp2_with (at_builtin; refine wpList_pushE rfl _ _ rfl _ w.heap.size _ L p1 p2 HROW2.out hs2 (by omega) rfl rfl ?_; refine Hid.out ?_)
        refine Nu.hid ?_
        intro v' w3 hrow3 hb3
        have HROW3 := Nu.hid hrow3
        have HB3 := Nu.hid (HB2.out.trans hb3)
        clear hrow3 hb3
        go_wp2
        go_roundw
        case rel =>
          have hx := HX.out
          exact ⟨k + 1, _, by omega, by go_num, .inr ⟨rfl, by rw [HT.out]; exact List.mem_append_left _ hx⟩, by rw [HL.out, HT.out]; exact (Ed.erase_in hx).symm, HROW3.out, HB3.out⟩
        case measure => simp [intOf]; omega
    · have hd : ¬ ((k : Int) < (es.length : Int)) := by omega
      have hLe : L = es.erase x := by rw [hL, List.take_of_length_le (by omega)]
      have HLE := Nu.hid hLe
      clear hrow hb hL hLe hs
      go_wp2
      go_ret
      exact ⟨_, rfl, by rw [← HLE.out]; exact HROW.out, HB.out⟩

end Go.Proofs.Ytdkckdbpbdhoaaa
