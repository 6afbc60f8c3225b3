import Derived.Test.YtdhaaodalchpkaaSiValid
import Derived.Test.YtdhaaodalchpkaaMgI
/-
  Edges gone through one after another: the first, the last.
-/
namespace Go.Proofs.Ytdhaaodalchpkaa
open Go.RowKit Go.Sort

theorem Si.UpTo.first {n : Int} {es : List (Int × Int)} {l p : Int × Int} (h : Si.UpTo n es 0 l) (ho : Si.ok n p) : Si.lt l p := by
  rcases h.2.2 with ⟨_, rfl⟩ | ⟨k', hk, _⟩
  · unfold Si.ok at ho
    unfold Si.lt
    dsimp only
    omega
  · omega

theorem Si.UpTo.last {n : Int} {es : List (Int × Int)} {k : Nat} {l : Int × Int} (h : Si.UpTo n es (k + 1) l) : es[k]? = some l := by
  rcases h.2.2 with ⟨h0, _⟩ | ⟨k', hk, hl⟩
  · omega
  · obtain rfl : k = k' := by omega
    exact hl

end Go.Proofs.Ytdhaaodalchpkaa

/-
  The order of edges as the document asks it.
-/
namespace Go.Proofs.Ytdhaaodalchpkaa
open Go.RowKit Go.Sort

set_option maxHeartbeats 1000000 in
theorem less_any (a b : Int × Int) (w : World) : Calls Try.prog 37 #[edgeVal a, edgeVal b] w fun e w' => e = .returned (.bool (decide (Si.lt a b))) ∧ ∃ q os', w' = grow (w.drewN q) os' := by
  unfold edgeVal
  by_cases h1 : a.1 < b.1
  · have hd : decide (Si.lt a b) = true := by simp [Si.lt, h1]
    rw [hd]
    go_enter Try.func37, Try.ntmps37
    go_wp2
    go_ret
    exact ⟨rfl, 0, _, by rw [alloc_eq_grow, alloc_eq_grow, grow_grow]; rfl⟩
  · by_cases h2 : a.1 = b.1
    · by_cases h3 : a.2 < b.2
      · have hd : decide (Si.lt a b) = true := by simp [Si.lt, h2, h3]
        rw [hd]
        go_enter Try.func37, Try.ntmps37
        go_wp2
        go_ret
        exact ⟨rfl, 0, _, by rw [alloc_eq_grow, alloc_eq_grow, grow_grow]; rfl⟩
      · have hd : decide (Si.lt a b) = false := by simp [Si.lt, h1, h3]
        rw [hd]
        go_enter Try.func37, Try.ntmps37
        go_wp2
        go_ret
        exact ⟨rfl, 0, _, by rw [alloc_eq_grow, alloc_eq_grow, grow_grow]; rfl⟩
    · have hd : decide (Si.lt a b) = false := by simp [Si.lt, h1, h2]
      rw [hd]
      go_enter Try.func37, Try.ntmps37
      go_wp2
      go_ret
      exact ⟨rfl, 0, _, by rw [alloc_eq_grow, alloc_eq_grow, grow_grow]; rfl⟩

theorem grown_of_grow {w w' : World} (h : ∃ (q : Nat) (os' : Array Obj), w' = grow (w.drewN q) os') : Below w.heap.size w w' := by
  obtain ⟨q, os', rfl⟩ := h
  exact grow_below w q os'

end Go.Proofs.Ytdhaaodalchpkaa

/-
  Whether a graph is valid, as the document asks it.
-/
namespace Go.Proofs.Ytdhaaodalchpkaa
open Go.RowKit Go.Sort

set_option maxRecDepth 100000 in
set_option maxHeartbeats 8000000 in
theorem rvalid_any (n : Int) (ao : Option Addr) (cap : Nat) (es : List (Int × Int)) (w : World) (he : EdgesAt w ao es) (hl : es.length ≤ 4611686018427387904) :
    Calls Try.prog 18 #[graphVal n ao es.length cap] w fun e w' => e = .returned (.bool (Si.valid n es)) ∧ Below w.heap.size w w' := by
  have HE := Nu.hid he
  clear he
  unfold graphVal
  by_cases h1 : n < 0
  · have hv := Si.valid_no (n := n) (es := es) (fun h => by have := h.lo; omega)
    rw [hv]
    go_enter Try.func18, Try.ntmps18
    go_wp2
    go_ret
    exact ⟨rfl, (Below.refl _ _).alloc (Nat.le_refl _) _⟩
  by_cases h2 : 1048576 < n
  · have hv := Si.valid_no (n := n) (es := es) (fun h => by have := h.hi; omega)
    rw [hv]
    go_enter Try.func18, Try.ntmps18
    go_wp2
    go_ret
    exact ⟨rfl, (Below.refl _ _).alloc (Nat.le_refl _) _⟩
  by_cases h3 : 4194304 < (es.length : Int)
  · have hv := Si.valid_no (n := n) (es := es) (fun h => by have := h.few; omega)
    rw [hv]
    go_enter Try.func18, Try.ntmps18
    go_wp2
    go_ret
    exact ⟨rfl, (Below.refl _ _).alloc (Nat.le_refl _) _⟩
  go_enter Try.func18, Try.ntmps18
  go_wp2
  go_loopw [3] (fun c wr => ∃ (k : Nat) (l : Int × Int), k ≤ es.length ∧ c = .int .i64 k ∧ Si.UpTo n es k l ∧ wr.heap[w.heap.size]? = some (.cells #[.int .i64 n, .slice ao es.length cap] 24 (0, 0)) ∧ Below w.heap.size w wr) (fun c _ => es.length - (intOf c).toNat)
  case atStart => exact ⟨0, (0, 0), Nat.zero_le _, rfl, Si.UpTo.start n es, heap_alloc_new w _, (Below.refl _ _).alloc (Nat.le_refl _) _⟩
  case round =>
    obtain ⟨k, l, hk, rfl, hup, hgb, hb⟩ := hrel
    obtain ⟨g0, g1, -⟩ := pair_cells hgb
    have hsz0 := lt_of_block hgb
    have HGB := Nu.hid hgb
    have HUP := Nu.hid hup
    have HB := Nu.hid hb
    clear hgb hup
    by_cases hlt : k < es.length
    · have hlti : (k : Int) < (es.length : Int) := by omega
      have hk0 : (0 : Int) ≤ (k : Int) := by omega
      obtain ⟨p, hp⟩ : ∃ p, es[k]? = some p := ⟨_, List.getElem?_eq_getElem hlt⟩
      obtain ⟨b, o, rfl, c0, c1⟩ := (HE.out.later hb) k p hp
      have hbl : b < wr.heap.size := block_lt_of_cell c0
      have HP := Nu.hid hp
      clear hp
      by_cases q1 : p.1 < 0
      · have hv := Si.valid_no (n := n) (es := es) (fun h => by have := (HUP.out.must h HP.out).1.1; omega)
        clear hb
        go_wp2
        go_ret
        exact ⟨by first | rfl | exact congrArg (fun b => Ending.returned (.bool b)) hv.symm, HB.out.alloc (by omega) _⟩
      by_cases q2 : p.1 < p.2
      rotate_left
      · have hv := Si.valid_no (n := n) (es := es) (fun h => by have := (HUP.out.must h HP.out).1.2.1; omega)
        clear hb
        go_wp2
        go_ret
        exact ⟨by first | rfl | exact congrArg (fun b => Ending.returned (.bool b)) hv.symm, HB.out.alloc (by omega) _⟩
      by_cases q3 : p.2 < n
      rotate_left
      · have hv := Si.valid_no (n := n) (es := es) (fun h => by have := (HUP.out.must h HP.out).1.2.2; omega)
        clear hb
        go_wp2
        go_ret
        exact ⟨by first | rfl | exact congrArg (fun b => Ending.returned (.bool b)) hv.symm, HB.out.alloc (by omega) _⟩
      have hok : Si.ok n p := ⟨by omega, q2, q3⟩
      have hbA : Below wr.heap.size wr (wr.alloc (.cells #[.int .i64 p.1, .int .i64 p.2] 57)) := (Below.refl _ _).alloc (Nat.le_refl _) _
      by_cases hkz : k = 0
      · have hkn : ¬ ((0 : Int) < (k : Int)) := by omega
        have hlt0 : Si.lt l p := by
          have := HUP.out
          rw [hkz] at this
          exact this.first hok
        have HST := Nu.hid (HUP.out.step HP.out hok hlt0)
        have HBA := Nu.hid (HB.out.trans (hbA.mono HB.out.size))
        have HG2 := Nu.hid ((hbA.block _ hsz0).trans HGB.out)
        clear hok hbA hb hkz hlt0
        go_wp2
        go_roundw
        case rel => exact ⟨k + 1, p, by omega, by go_num, HST.out, HG2.out, HBA.out⟩
        case measure => simp [intOf]; omega
      · obtain ⟨k', hk'⟩ : ∃ k', k = k' + 1 := ⟨k - 1, by omega⟩
        have hl' : es[k']? = some l := by
          have := HUP.out
          rw [hk'] at this
          exact this.last
        obtain ⟨b2, o2, e2, d0, d1⟩ := (HE.out.later hb) k' l hl'
        cases e2
        have hk1 : (k : Int) - 1 = (k' : Int) := by omega
        have hkw : IntKind.i64.wrap (k' : Int) = (k' : Int) := by simp [IntKind.wrap, IntKind.bits, IntKind.signed]; omega
        have hk'0 : (0 : Int) ≤ (k' : Int) := by omega
        have hk'l : (k' : Int) < (es.length : Int) := by omega
        have hkp : (0 : Int) < (k : Int) := by omega
        have hca := fun W => less_any l p W
        unfold edgeVal at hca
        have HK := Nu.hid hk'
        clear hk' hl' hkz hb
        have HBA := Nu.hid hbA
        have y0 := (hbA.cell (p := ⟨b, o + k' * 2, none⟩) hbl).trans d0
        have y1 := (hbA.cell (p := ⟨b, o + k' * 2 + 1, none⟩) hbl).trans d1
        have z0 := (hbA.cell (p := ⟨w.heap.size, 0, none⟩) hsz0).trans g0
        have z1 := (hbA.cell (p := ⟨w.heap.size, 1, none⟩) hsz0).trans g1
        obtain ⟨p0, p1, -⟩ := pair_cells (heap_alloc_new wr (.cells #[.int .i64 p.1, .int .i64 p.2] 57))
        have hsA : (wr.alloc (.cells #[.int .i64 p.1, .int .i64 p.2] 57)).heap.size = wr.heap.size + 1 := by simp
        by_cases q4 : Si.lt l p
        · have hd : decide (Si.lt l p) = true := by simp [q4]
          rw [hd] at hca
          have HCA := Nu.hid hca
          have HST := Nu.hid (HUP.out.step HP.out hok q4)
          clear hca hd hok hbA d0 d1
          go_wp2_with fail
          generalize hX : wr.alloc (.cells #[.int .i64 p.1, .int .i64 p.2] 57) = X at y0 y1 z0 z1 p0 p1 hsA HBA ⊢
          clear hX c0 c1 g0 g1
          go_region_held3 (fun w' => w'.cell? ⟨b, o + k' * 2, none⟩ = some (.int .i64 l.1) ∧ w'.cell? ⟨b, o + k' * 2 + 1, none⟩ = some (.int .i64 l.2) ∧ w'.cell? ⟨w.heap.size, 1, none⟩ = some (.slice (some ⟨b, o, none⟩) es.length cap) ∧ w'.cell? ⟨wr.heap.size, 0, none⟩ = some (.int .i64 p.1) ∧ w'.cell? ⟨wr.heap.size, 1, none⟩ = some (.int .i64 p.2))
            (first
              | go_keep
              | (go_split_ands
                 refine ⟨?_, ?_, ?_, ?_, ?_⟩ <;> (refine (hb2.cell (p := ⟨_, _, none⟩) ?_).trans ?_ <;> first | assumption | (simp; omega))))
            ((go_at_call 37; refine (HCA.out _).mono ?_; rintro e w2 ⟨rfl, hgr⟩; have hb2 : Below X.heap.size X w2 := (Below.refl X.heap.size X).drew.trans (grown_of_grow hgr)))
          have hb3 : Below wr.heap.size wr w2 := HBA.out.trans (hb2.mono (by omega))
          have HB3 := Nu.hid (HB.out.trans (hb3.mono HB.out.size))
          have HG3 := Nu.hid ((hb3.block _ hsz0).trans HGB.out)
          clear hb2 hb3 hgr
          go_wp2
          go_roundw
          case rel => exact ⟨k + 1, p, by omega, by go_num, HST.out, HG3.out, HB3.out⟩
          case measure => simp [intOf]; omega
        · have hv := Si.valid_no (n := n) (es := es) (fun h => q4 (HUP.out.must h HP.out).2)
          have HV := Nu.hid hv
          have hd : decide (Si.lt l p) = false := by simp [q4]
          rw [hd] at hca
          have HCA := Nu.hid hca
          clear hca hd hok hbA d0 d1 hv
          go_wp2_with fail
          generalize hX : wr.alloc (.cells #[.int .i64 p.1, .int .i64 p.2] 57) = X at y0 y1 z0 z1 p0 p1 hsA HBA ⊢
          clear hX c0 c1 g0 g1
          go_region_held3 (fun w' => w'.cell? ⟨b, o + k' * 2, none⟩ = some (.int .i64 l.1) ∧ w'.cell? ⟨b, o + k' * 2 + 1, none⟩ = some (.int .i64 l.2) ∧ w'.cell? ⟨w.heap.size, 1, none⟩ = some (.slice (some ⟨b, o, none⟩) es.length cap) ∧ w'.cell? ⟨wr.heap.size, 0, none⟩ = some (.int .i64 p.1) ∧ w'.cell? ⟨wr.heap.size, 1, none⟩ = some (.int .i64 p.2))
            (first
              | go_keep
              | (go_split_ands
                 refine ⟨?_, ?_, ?_, ?_, ?_⟩ <;> (refine (hb2.cell (p := ⟨_, _, none⟩) ?_).trans ?_ <;> first | assumption | (simp; omega))))
            ((go_at_call 37; refine (HCA.out _).mono ?_; rintro e w2 ⟨rfl, hgr⟩; have hb2 : Below X.heap.size X w2 := (Below.refl X.heap.size X).drew.trans (grown_of_grow hgr)))
          have hb3 : Below wr.heap.size wr w2 := HBA.out.trans (hb2.mono (by omega))
          have HB3 := Nu.hid (HB.out.trans (hb3.mono HB.out.size))
          clear hb2 hb3 hgr
          go_wp2
          go_ret
          exact ⟨by rw [HV.out]; rfl, HB3.out⟩
    · have hd : ¬ ((k : Int) < (es.length : Int)) := by omega
      obtain rfl : k = es.length := by omega
      have hv := Si.valid_iff.2 (HUP.out.done (by omega) (by omega) (by omega))
      have HV := Nu.hid hv
      clear hb hv
      go_wp2
      go_ret
      exact ⟨by rw [HV.out]; rfl, HB.out⟩

end Go.Proofs.Ytdhaaodalchpkaa
