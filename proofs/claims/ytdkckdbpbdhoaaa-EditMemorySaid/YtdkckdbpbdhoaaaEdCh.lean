/-
  The edges that are marked; shifted; the spokes.
-/
import Derived.Test.YtdkckdbpbdhoaaaEdM
import Derived.Test.YtdkckdbpbdhoaaaMgC
import Derived.Test.YtdkckdbpbdhoaaaMgA
namespace Go.Proofs.Ytdkckdbpbdhoaaa
open Go.RowKit Go.Sort

theorem size_one (W : World) (o : Obj) : (W.alloc o).heap.size = W.heap.size + 1 := by simp

set_option maxRecDepth 100000 in
set_option maxHeartbeats 4000000 in
theorem choose_any (ao : Option Addr) (cap g : Nat) (es : List (Int × Int)) (bs : List Bool) (w : World) (he : EdgesAt w ao es) (hl : es.length ≤ 4194304) (hb : BlsBlk w g bs) (hbl : bs.length = es.length) :
    Calls Try.prog 44 #[.slice (some ⟨g, 0, none⟩) es.length es.length, .slice ao es.length cap] w fun e w' => ∃ v, e = .returned v ∧ OwnE w' w.heap.size v (Ed.sel bs es) ∧ Below w.heap.size w w' := by
  have HE := Nu.hid he
  have HBS := Nu.hid hb
  have HBL := Nu.hid hbl
  clear he hb hbl
  go_enter Try.func44, Try.ntmps44
  go_wp2
  go_loopw [5, 10] (fun v c wr => ∃ (k : Nat) (L : List (Int × Int)), k ≤ es.length ∧ c = .int .i64 k ∧ L = Ed.sel bs (es.take k) ∧ OwnE wr w.heap.size v L ∧ Below w.heap.size w wr) (fun _ c _ => es.length - (intOf c).toNat)
  case atStart => exact ⟨0, [], Nat.zero_le _, rfl, by cases bs with | nil => rfl | cons b _ => cases b <;> rfl, OwnE.nil _ _, Below.refl _ _⟩
  case round =>
    obtain ⟨k, L, hk, rfl, hL, hrow, hb⟩ := hrel
    have HROW := Nu.hid hrow
    have HB := Nu.hid hb
    have HL := Nu.hid hL
    have hs0 : w.heap.size ≤ wr.heap.size := hb.size
    have hLl : L.length ≤ k := by
      rw [hL]
      refine Nat.le_trans (Ed.sel_sub _ _).length_le ?_
      rw [List.length_take]
      omega
    by_cases hlt : k < es.length
    · have hlti : (k : Int) < (es.length : Int) := by omega
      have hk0 : (0 : Int) ≤ (k : Int) := by omega
      obtain ⟨p, hp⟩ : ∃ p, es[k]? = some p := ⟨_, List.getElem?_eq_getElem hlt⟩
      obtain ⟨x, hx⟩ : ∃ x, bs[k]? = some x := ⟨_, List.getElem?_eq_getElem (by rw [HBL.out]; exact hlt)⟩
      obtain ⟨b, o, rfl, c0, c1⟩ := (HE.out.later hb) k p hp
      have hbl : b < wr.heap.size := block_lt_of_cell c0
      have hB2 := HBS.out.later hb
      have d0 := hB2.cell hx
      have hgl := hB2.lt
      have HT := Nu.hid (Ed.sel_take bs es k p x hp hx)
      obtain ⟨p1, p2⟩ := p
      dsimp only at c0 c1
      have HEB : Hid ((wr.alloc (.cells #[.int .i64 p1, .int .i64 p2] 26)).heap[wr.heap.size]? = some (.cells #[.int .i64 p1, .int .i64 p2] 26 (0, 0))) := heap_alloc_new wr _
      clear hrow hb hL hp hx hB2
      cases x with
      | false =>
        go_wp2
        go_roundw
        case rel => exact ⟨k + 1, L, by omega, by go_num, by rw [HL.out, HT.out]; simp, HROW.out.alloc _, HB.out.alloc hs0 _⟩
        case measure => simp [intOf]; omega
      | true =>
        have HB2 := Nu.hid (HB.out.alloc hs0 (.cells #[.int .i64 p1, .int .i64 p2] 26))
        go_wp2_with (at_builtin; refine wpList_pushE rfl _ _ rfl _ w.heap.size _ L p1 p2 (HROW.out.alloc _) (by simp; omega) (by omega) rfl (by first | rfl | (simp only [size_one]; rfl)) ?_; refine Hid.out ?_)
        refine Nu.hid ?_
        intro v' w3 hrow3 hb3
        have HROW3 := Nu.hid hrow3
        have HB3 := Nu.hid (HB2.out.trans hb3)
        clear hrow3 hb3
        go_wp2
        go_roundw
        case rel => exact ⟨k + 1, _, by omega, by go_num, by rw [HT.out, ← HL.out]; simp, HROW3.out, HB3.out⟩
        case measure => simp [intOf]; omega
    · have hd : ¬ ((k : Int) < (es.length : Int)) := by omega
      have hLe : L = Ed.sel bs es := by rw [hL, List.take_of_length_le (by omega)]
      have HLE := Nu.hid hLe
      clear hrow hb hL hLe
      go_wp2
      go_ret
      exact ⟨_, rfl, by rw [← HLE.out]; exact HROW.out, HB.out⟩

theorem Ed.sh_length (d : Int) (es : List (Int × Int)) : (Ed.sh d es).length = es.length := by simp [Ed.sh]
theorem Ed.sh_set {d : Int} {es : List (Int × Int)} {k : Nat} {p : Int × Int} (hp : es[k]? = some p) : (Ed.sh d (es.take k) ++ List.replicate (es.length - k) (0, 0)).set k (d + p.1, d + p.2) = Ed.sh d (es.take (k + 1)) ++ List.replicate (es.length - (k + 1)) (0, 0) := by
  have hl : k < es.length := (List.getElem?_eq_some_iff.1 hp).1
  have e : es.length - k = (es.length - (k + 1)) + 1 := by omega
  have hk : (Ed.sh d (es.take k)).length = k := by rw [Ed.sh_length, List.length_take]; omega
  rw [e, List.replicate_succ, Si.take_snoc hp, List.set_append_right _ _ (by omega), hk]
  simp [Ed.sh]

set_option maxRecDepth 100000 in
set_option maxHeartbeats 4000000 in
theorem shift_any (d : Int) (ao : Option Addr) (cap : Nat) (es : List (Int × Int)) (w : World) (he : EdgesAt w ao es) (hl : es.length ≤ 4194304) (hd : 0 ≤ d ∧ d ≤ 1048576) (hv : ∀ (j : Nat) (p : Int × Int), es[j]? = some p → (0 ≤ p.1 ∧ p.1 ≤ 1048576) ∧ 0 ≤ p.2 ∧ p.2 ≤ 1048576) :
    Calls Try.prog 49 #[.int .i64 d, .slice ao es.length cap] w fun e w' => ∃ g, e = .returned (.slice (some ⟨g, 0, none⟩) es.length es.length) ∧ EdsBlk w' g (Ed.sh d es) ∧ w.heap.size ≤ g ∧ Below w.heap.size w w' := by
  obtain ⟨i0, hi, hz0, hz1, hz2⟩ := info_parts Try.infoEdge
  have HE := Nu.hid he
  have HV := Nu.hid hv
  clear he hv
  go_enter Try.func49, Try.ntmps49
  go_wp2_with (at_make; refine wpList_make_full _ rfl _ _ 22 rfl w.heap.size 26 i0 (.agg #[.int .i64 0, .int .i64 0]) 2 Try.underlying22 hi hz0 hz1 _ _ _ _ es.length rfl rfl rfl rfl (by rw [hz2]; omega) (by unfold maxLen; omega) (Nat.le_refl _) ?_; refine Hid.out ?_)
  refine Nu.hid ?_
  intro w1 hrow1 hg1
  have HROW1 : Hid (EdsBlk w1 w.heap.size (List.replicate es.length (0, 0))) := by
    refine eds_of_row (B := w.heap.size) (n := es.length) ?_
    rw [← made_eds]
    exact hrow1
  have HB1 : Hid (Below w.heap.size w w1) := (Below.refl _ _).grown hg1 (Nat.le_refl _) (fun j hj => by cases hj)
  clear hrow1 hg1
  go_wp2
  go_loopw [13] (fun c wr => ∃ (k : Nat) (L : List (Int × Int)), k ≤ es.length ∧ c = .int .i64 k ∧ L = Ed.sh d (es.take k) ++ List.replicate (es.length - k) (0, 0) ∧ EdsBlk wr w.heap.size L ∧ Below w.heap.size w wr) (fun c _ => es.length - (intOf c).toNat)
  case atStart => exact ⟨0, _, Nat.zero_le _, rfl, by simp [Ed.sh], HROW1.out, HB1.out⟩
  case round =>
    obtain ⟨k, L, hk, rfl, hL, hrow, hb⟩ := hrel
    have HROW := Nu.hid hrow
    have HB := Nu.hid hb
    have HL := Nu.hid hL
    have hs0 := hrow.lt
    by_cases hlt : k < es.length
    · have hlti : (k : Int) < (es.length : Int) := by omega
      have hk0 : (0 : Int) ≤ (k : Int) := by omega
      obtain ⟨p, hp⟩ : ∃ p, es[k]? = some p := ⟨_, List.getElem?_eq_getElem hlt⟩
      obtain ⟨b, o, rfl, c0, c1⟩ := (HE.out.later hb) k p hp
      have hbl : b < wr.heap.size := block_lt_of_cell c0
      have HT := Nu.hid (Ed.sh_set (d := d) hp)
      have hvp := HV.out k p hp
      obtain ⟨p1, p2⟩ := p
      dsimp only at c0 c1 hvp
      obtain ⟨s1, hs1⟩ : ∃ s, d + p1 = s := ⟨_, rfl⟩
      obtain ⟨s2, hs2⟩ : ∃ s, d + p2 = s := ⟨_, rfl⟩
      have ws1 : IntKind.i64.wrap (d + p1) = s1 := by rw [hs1]; exact wrap_small _ (by omega) (by omega)
      have ws2 : IntKind.i64.wrap (d + p2) = s2 := by rw [hs2]; exact wrap_small _ (by omega) (by omega)
      have HS12 : Hid ((d + p1, d + p2) = (s1, s2)) := by rw [hs1, hs2]; exact rfl
      have hLl : k < L.length := by rw [hL]; simp [Ed.sh]; omega
      obtain ⟨⟨q1, q2⟩, hq⟩ : ∃ q, L[k]? = some q := ⟨_, List.getElem?_eq_getElem hLl⟩
      obtain ⟨x0, x1⟩ := hrow.cells hq
      have f0 := hrow.free (k * 2)
      have f1 := hrow.free (k * 2 + 1)
      obtain ⟨y1, g1⟩ := hrow.one k s1 hq
      have HA2 := Nu.hid ((hrow.set k s1 s2).alloc (.cells #[.int .i64 p1, .int .i64 p2] 26))
      clear hrow hb hL hp hvp hs1 hs2 hq
      go_wp2
      go_roundw
      case rel =>
        refine ⟨k + 1, _, by omega, by go_num, ?_, HA2.out, ((HB.out.setCell (by simp) _).setCell (by simp) _).alloc (by simp; omega) _⟩
        rw [← HT.out, HS12.out, HL.out]
      case measure => simp [intOf]; omega
    · have hd : ¬ ((k : Int) < (es.length : Int)) := by omega
      have hLe : L = Ed.sh d es := by
        have : es.length - k = 0 := by omega
        rw [hL, List.take_of_length_le (by omega), this]
        simp
      have HLE := Nu.hid hLe
      clear hrow hb hL hLe
      go_wp2
      go_ret
      exact ⟨_, rfl, by rw [← HLE.out]; exact HROW.out, Nat.le_refl _, HB.out⟩

set_option maxRecDepth 100000 in
set_option maxHeartbeats 4000000 in
theorem spokes_any (m : Nat) (w : World) (hm : m ≤ 1048576) :
    Calls Try.prog 43 #[.int .i64 (m : Int)] w fun e w' => ∃ g, e = .returned (.slice (some ⟨g, 0, none⟩) m m) ∧ EdsBlk w' g (Ed.sp (m : Int) m) ∧ w.heap.size ≤ g ∧ Below w.heap.size w w' := by
  obtain ⟨i0, hi, hz0, hz1, hz2⟩ := info_parts Try.infoEdge
  go_enter Try.func43, Try.ntmps43
  go_wp2_with (at_make; refine wpList_make_full _ rfl _ _ 22 rfl w.heap.size 26 i0 (.agg #[.int .i64 0, .int .i64 0]) 2 Try.underlying22 hi hz0 hz1 _ _ _ _ m rfl rfl rfl rfl (by rw [hz2]; omega) (by unfold maxLen; omega) (Nat.le_refl _) ?_; refine Hid.out ?_)
  refine Nu.hid ?_
  intro w1 hrow1 hg1
  have HROW1 : Hid (EdsBlk w1 w.heap.size (List.replicate m (0, 0))) := by
    refine eds_of_row (B := w.heap.size) (n := m) ?_
    rw [← made_eds]
    exact hrow1
  have HB1 : Hid (Below w.heap.size w w1) := (Below.refl _ _).grown hg1 (Nat.le_refl _) (fun j hj => by cases hj)
  clear hrow1 hg1
  go_wp2
  go_loopw [9] (fun c wr => ∃ (k : Nat) (L : List (Int × Int)), k ≤ m ∧ c = .int .i64 k ∧ L = Ed.sp (m : Int) k ++ List.replicate (m - k) (0, 0) ∧ EdsBlk wr w.heap.size L ∧ Below w.heap.size w wr) (fun c _ => m - (intOf c).toNat)
  case atStart => exact ⟨0, _, Nat.zero_le _, rfl, by simp [Ed.sp], HROW1.out, HB1.out⟩
  case round =>
    obtain ⟨k, L, hk, rfl, hL, hrow, hb⟩ := hrel
    have HROW := Nu.hid hrow
    have HB := Nu.hid hb
    have HL := Nu.hid hL
    have hs0 := hrow.lt
    by_cases hlt : k < m
    · have hlti : (k : Int) < (m : Int) := by omega
      have hk0 : (0 : Int) ≤ (k : Int) := by omega
      have HT := Nu.hid (Ed.sp_set (n := (m : Int)) hlt)
      have hLl : k < L.length := by rw [hL]; simp [Ed.sp]; omega
      obtain ⟨⟨q1, q2⟩, hq⟩ : ∃ q, L[k]? = some q := ⟨_, List.getElem?_eq_getElem hLl⟩
      obtain ⟨x0, x1⟩ := hrow.cells hq
      have f0 := hrow.free (k * 2)
      have f1 := hrow.free (k * 2 + 1)
      obtain ⟨y1, g1⟩ := hrow.one k (k : Int) hq
      have HA2 := Nu.hid (hrow.set k (k : Int) (m : Int))
      clear hrow hb hL hq
      go_wp2
      go_roundw
      case rel => exact ⟨k + 1, _, by omega, by go_num, by rw [← HT.out, HL.out], HA2.out, (HB.out.setCell (by simp) _).setCell (by simp) _⟩
      case measure => simp [intOf]; omega
    · have hd : ¬ ((k : Int) < (m : Int)) := by omega
      have hLe : L = Ed.sp (m : Int) m := by
        have h1 : m - k = 0 := by omega
        have h2 : k = m := by omega
        rw [hL, h1, h2]
        simp
      have HLE := Nu.hid hLe
      clear hrow hb hL hLe
      go_wp2
      go_ret
      exact ⟨_, rfl, by rw [← HLE.out]; exact HROW.out, Nat.le_refl _, HB.out⟩

end Go.Proofs.Ytdkckdbpbdhoaaa
