import Derived.Test.YtalfpbalekbinaaMg02
import Derived.Test.YtalfpbalekbinaaMg28
import Derived.Test.YtalfpbalekbinaaMg18
/-
  Whether a graph is valid, as the document asks it.
-/
namespace Go.Proofs.Ytalfpbalekbinaa
open Go.RowKit Go.Sort

set_option maxRecDepth 100000 in
set_option maxHeartbeats 8000000 in
theorem rvalid_any (n : Int) (ao : Option Addr) (cap : Nat) (es : List (Int × Int)) (w : World) (he : EdgesAt w ao es) (hl : es.length ≤ 4611686018427387904) :
    Calls Try.prog 20 #[graphVal n ao es.length cap] w fun e w' => e = .returned (.bool (Si.valid n es)) ∧ Below w.heap.size w w' := by
  have HE := Nu.hid he
  clear he
  unfold graphVal
  by_cases h1 : n < 0
  · have hv := Si.valid_no (n := n) (es := es) (fun h => by have := h.lo; omega)
    rw [hv]
    go_enter Try.func20, Try.ntmps20
    go_wp2
    go_ret
    exact ⟨rfl, (Below.refl _ _).alloc (Nat.le_refl _) _⟩
  by_cases h2 : 1048576 < n
  · have hv := Si.valid_no (n := n) (es := es) (fun h => by have := h.hi; omega)
    rw [hv]
    go_enter Try.func20, Try.ntmps20
    go_wp2
    go_ret
    exact ⟨rfl, (Below.refl _ _).alloc (Nat.le_refl _) _⟩
  by_cases h3 : 4194304 < (es.length : Int)
  · have hv := Si.valid_no (n := n) (es := es) (fun h => by have := h.few; omega)
    rw [hv]
    go_enter Try.func20, Try.ntmps20
    go_wp2
    go_ret
    exact ⟨rfl, (Below.refl _ _).alloc (Nat.le_refl _) _⟩
  go_enter Try.func20, Try.ntmps20
  go_wp2
  go_loopw [3] (fun c wr => ∃ (k : Nat) (l : Int × Int), k ≤ es.length ∧ c = .int .i64 k ∧ Si.UpTo n es k l ∧ wr.heap[w.heap.size]? = some (.cells #[.int .i64 n, .slice ao es.length cap] 24 (0, 0)) ∧ Below w.heap.size w wr) (fun c _ => es.length - (intOf c).toNat)
  case atStart => exact ⟨0, (0, 0), Nat.zero_le _, rfl, Si.UpTo.start n es, heap_alloc_new w _, (Below.refl _ _).alloc (Nat.le_refl _) _⟩
  case round =>
    obtain ⟨k, l, hk, rfl, hup, hgb, hb⟩ := hrel
    obtain ⟨g0, g1, -⟩ := pair_cells hgb
    have hsz0 := lt_of_block hgb
    have HGB := Nu.hid hgb
    have HUP := Nu.hid hup
    have HB := Nu.hid hb
    clear hgb hup
    by_cases hlt : k < es.length
    · have hlti : (k : Int) < (es.length : Int) := by omega
      have hk0 : (0 : Int) ≤ (k : Int) := by omega
      obtain ⟨p, hp⟩ : ∃ p, es[k]? = some p := ⟨_, List.getElem?_eq_getElem hlt⟩
      obtain ⟨b, o, rfl, c0, c1⟩ := (HE.out.later hb) k p hp
      have hbl : b < wr.heap.size := block_lt_of_cell c0
      have HP := Nu.hid hp
      clear hp
      by_cases q1 : p.1 < 0
      · have hv := Si.valid_no (n := n) (es := es) (fun h => by have := (HUP.out.must h HP.out).1.1; omega)
        clear hb
        go_wp2
        go_ret
        exact ⟨by first | rfl | exact congrArg (fun b => Ending.returned (.bool b)) hv.symm, HB.out.alloc (by omega) _⟩
      by_cases q2 : p.1 < p.2
      rotate_left
      · have hv := Si.valid_no (n := n) (es := es) (fun h => by have := (HUP.out.must h HP.out).1.2.1; omega)
        clear hb
        go_wp2
        go_ret
        exact ⟨by first | rfl | exact congrArg (fun b => Ending.returned (.bool b)) hv.symm, HB.out.alloc (by omega) _⟩
      by_cases q3 : p.2 < n
      rotate_left
      · have hv := Si.valid_no (n := n) (es := es) (fun h => by have := (HUP.out.must h HP.out).1.2.2; omega)
        clear hb
        go_wp2
        go_ret
        exact ⟨by first | rfl | exact congrArg (fun b => Ending.returned (.bool b)) hv.symm, HB.out.alloc (by omega) _⟩
      have hok : Si.ok n p := ⟨by omega, q2, q3⟩
      have hbA : Below wr.heap.size wr (wr.alloc (.cells #[.int .i64 p.1, .int .i64 p.2] 49)) := (Below.refl _ _).alloc (Nat.le_refl _) _
      by_cases hkz : k = 0
      · have hkn : ¬ ((0 : Int) < (k : Int)) := by omega
        have hlt0 : Si.lt l p := by
          have := HUP.out
          rw [hkz] at this
          exact this.first hok
        have HST := Nu.hid (HUP.out.step HP.out hok hlt0)
        have HBA := Nu.hid (HB.out.trans (hbA.mono HB.out.size))
        have HG2 := Nu.hid ((hbA.block _ hsz0).trans HGB.out)
        clear hok hbA hb hkz hlt0
        go_wp2
        go_roundw
        case rel => exact ⟨k + 1, p, by omega, by go_num, HST.out, HG2.out, HBA.out⟩
        case measure => simp [intOf]; omega
      · obtain ⟨k', hk'⟩ : ∃ k', k = k' + 1 := ⟨k - 1, by omega⟩
        have hl' : es[k']? = some l := by
          have := HUP.out
          rw [hk'] at this
          exact this.last
        obtain ⟨b2, o2, e2, d0, d1⟩ := (HE.out.later hb) k' l hl'
        cases e2
        have hk1 : (k : Int) - 1 = (k' : Int) := by omega
        have hkw : IntKind.i64.wrap (k' : Int) = (k' : Int) := by simp [IntKind.wrap, IntKind.bits, IntKind.signed]; omega
        have hk'0 : (0 : Int) ≤ (k' : Int) := by omega
        have hk'l : (k' : Int) < (es.length : Int) := by omega
        have hkp : (0 : Int) < (k : Int) := by omega
        have hca := fun W => less_any l p W
        unfold edgeVal at hca
        have HK := Nu.hid hk'
        clear hk' hl' hkz hb
        have HBA := Nu.hid hbA
        have y0 := (hbA.cell (p := ⟨b, o + k' * 2, none⟩) hbl).trans d0
        have y1 := (hbA.cell (p := ⟨b, o + k' * 2 + 1, none⟩) hbl).trans d1
        have z0 := (hbA.cell (p := ⟨w.heap.size, 0, none⟩) hsz0).trans g0
        have z1 := (hbA.cell (p := ⟨w.heap.size, 1, none⟩) hsz0).trans g1
        obtain ⟨p0, p1, -⟩ := pair_cells (heap_alloc_new wr (.cells #[.int .i64 p.1, .int .i64 p.2] 49))
        have hsA : (wr.alloc (.cells #[.int .i64 p.1, .int .i64 p.2] 49)).heap.size = wr.heap.size + 1 := by simp
        by_cases q4 : Si.lt l p
        · have hd : decide (Si.lt l p) = true := by simp [q4]
          rw [hd] at hca
          have HCA := Nu.hid hca
          have HST := Nu.hid (HUP.out.step HP.out hok q4)
          clear hca hd hok hbA d0 d1
          go_wp2_with fail
          generalize hX : wr.alloc (.cells #[.int .i64 p.1, .int .i64 p.2] 49) = X at y0 y1 z0 z1 p0 p1 hsA HBA ⊢
          clear hX c0 c1 g0 g1
          go_region_held3 (fun w' => w'.cell? ⟨b, o + k' * 2, none⟩ = some (.int .i64 l.1) ∧ w'.cell? ⟨b, o + k' * 2 + 1, none⟩ = some (.int .i64 l.2) ∧ w'.cell? ⟨w.heap.size, 1, none⟩ = some (.slice (some ⟨b, o, none⟩) es.length cap) ∧ w'.cell? ⟨wr.heap.size, 0, none⟩ = some (.int .i64 p.1) ∧ w'.cell? ⟨wr.heap.size, 1, none⟩ = some (.int .i64 p.2))
            (first
              | go_keep
              | (go_split_ands
                 refine ⟨?_, ?_, ?_, ?_, ?_⟩ <;> (refine (hb2.cell (p := ⟨_, _, none⟩) ?_).trans ?_ <;> first | assumption | (simp; omega))))
            ((go_at_call 36; refine (HCA.out _).mono ?_; rintro e w2 ⟨rfl, hgr⟩; have hb2 : Below X.heap.size X w2 := (Below.refl X.heap.size X).drew.trans (grown_of_grow hgr)))
          have hb3 : Below wr.heap.size wr w2 := HBA.out.trans (hb2.mono (by omega))
          have HB3 := Nu.hid (HB.out.trans (hb3.mono HB.out.size))
          have HG3 := Nu.hid ((hb3.block _ hsz0).trans HGB.out)
          clear hb2 hb3 hgr
          go_wp2
          go_roundw
          case rel => exact ⟨k + 1, p, by omega, by go_num, HST.out, HG3.out, HB3.out⟩
          case measure => simp [intOf]; omega
        · have hv := Si.valid_no (n := n) (es := es) (fun h => q4 (HUP.out.must h HP.out).2)
          have HV := Nu.hid hv
          have hd : decide (Si.lt l p) = false := by simp [q4]
          rw [hd] at hca
          have HCA := Nu.hid hca
          clear hca hd hok hbA d0 d1 hv
          go_wp2_with fail
          generalize hX : wr.alloc (.cells #[.int .i64 p.1, .int .i64 p.2] 49) = X at y0 y1 z0 z1 p0 p1 hsA HBA ⊢
          clear hX c0 c1 g0 g1
          go_region_held3 (fun w' => w'.cell? ⟨b, o + k' * 2, none⟩ = some (.int .i64 l.1) ∧ w'.cell? ⟨b, o + k' * 2 + 1, none⟩ = some (.int .i64 l.2) ∧ w'.cell? ⟨w.heap.size, 1, none⟩ = some (.slice (some ⟨b, o, none⟩) es.length cap) ∧ w'.cell? ⟨wr.heap.size, 0, none⟩ = some (.int .i64 p.1) ∧ w'.cell? ⟨wr.heap.size, 1, none⟩ = some (.int .i64 p.2))
            (first
              | go_keep
              | (go_split_ands
                 refine ⟨?_, ?_, ?_, ?_, ?_⟩ <;> (refine (hb2.cell (p := ⟨_, _, none⟩) ?_).trans ?_ <;> first | assumption | (simp; omega))))
            ((go_at_call 36; refine (HCA.out _).mono ?_; rintro e w2 ⟨rfl, hgr⟩; have hb2 : Below X.heap.size X w2 := (Below.refl X.heap.size X).drew.trans (grown_of_grow hgr)))
          have hb3 : Below wr.heap.size wr w2 := HBA.out.trans (hb2.mono (by omega))
          have HB3 := Nu.hid (HB.out.trans (hb3.mono HB.out.size))
          clear hb2 hb3 hgr
          go_wp2
          go_ret
          exact ⟨by rw [HV.out]; rfl, HB3.out⟩
    · have hd : ¬ ((k : Int) < (es.length : Int)) := by omega
      obtain rfl : k = es.length := by omega
      have hv := Si.valid_iff.2 (HUP.out.done (by omega) (by omega) (by omega))
      have HV := Nu.hid hv
      clear hb hv
      go_wp2
      go_ret
      exact ⟨by rw [HV.out]; rfl, HB.out⟩

end Go.Proofs.Ytalfpbalekbinaa

/-
  The document's Of: the number of each edge's block.
-/
namespace Go.Proofs.Ytalfpbalekbinaa
open Go.RowKit Go.Sort

namespace Bl
/-- How many of the first k are the least of their class. -/
def cntB (m : Nat → Nat) (k : Nat) : Nat := Co.cntTo (fun i => decide (m i = i)) k
def numB (m : Nat → Nat) (i : Nat) : Nat := cntB m (m i)
theorem cntB_le (m : Nat → Nat) (k : Nat) : cntB m k ≤ k := Co.cntTo_le _ k
theorem cntB_yes {m : Nat → Nat} {k : Nat} (h : m k = k) : cntB m (k + 1) = cntB m k + 1 := by
  unfold cntB
  rw [Co.cntTo]
  simp [h]
theorem cntB_no {m : Nat → Nat} {k : Nat} (h : m k ≠ k) : cntB m (k + 1) = cntB m k := by
  unfold cntB
  rw [Co.cntTo]
  simp [h]
/-- The first k have their number. -/
def begB (m : Nat → Nat) (k i : Nat) : Nat := if i < k then numB m i else 0
theorem begB_next (m : Nat → Nat) (k : Nat) : ∀ i, Co.upd (begB m k) k (numB m k) i = begB m (k + 1) i := fun i => by
  by_cases e : i = k
  · subst e
    rw [Co.upd_same]
    unfold begB
    rw [if_pos (by omega)]
  · rw [Co.upd_other _ e]
    unfold begB
    by_cases h : i < k
    · rw [if_pos h, if_pos (by omega)]
    · rw [if_neg h, if_neg (by omega)]
theorem ClE.norm {n : Nat} {es : List (Int × Int)} {m : Nat → Nat} {D : Nat → Nat → Nat → Prop} (h : ClE n es m D) : Co.Norm es.length m := by
  obtain ⟨_, h1, _⟩ := h
  exact h1.norm
theorem nums_zero (n : Nat) : nums n (fun _ => 0) = List.replicate n 0 := by
  refine List.ext_getElem? fun i => ?_
  by_cases h : i < n
  · rw [nums_at h, List.getElem?_replicate, if_pos h]
    rfl
  · rw [List.getElem?_eq_none (by rw [nums_length]; omega), List.getElem?_eq_none (by simp; omega)]
end Bl

def OfPost9 (n : Int) (es : List (Int × Int)) (w : World) (e : Ending) (w' : World) : Prop :=
  ((∃ (m : Nat → Nat) (g : Nat), Si.valid n es = true ∧ e = .returned (.tuple #[.slice (some ⟨g, 0, none⟩) es.length es.length, .int .i64 (Bl.cntB m es.length : Int), .int .i64 0]) ∧ w.heap.size ≤ g ∧ IntsBlk w' g (Bl.nums es.length (Bl.numB m)) ∧ Bl.ClE n.toNat es m (fun _ _ _ => True)) ∨
    (Si.valid n es = false ∧ e = .returned (.tuple #[.slice none 0 0, .int .i64 0, .int .i64 1]))) ∧ Below w.heap.size w w'

set_option maxRecDepth 100000 in
set_option maxHeartbeats 16000000 in
theorem of9_any (n : Int) (ao : Option Addr) (cap : Nat) (es : List (Int × Int)) (w : World) (he : EdgesAt w ao es) (hl : es.length ≤ 4611686018427387904) :
    Calls Try.prog 11 #[graphVal n ao es.length cap] w (OfPost9 n es w) := by
  obtain ⟨i0, hi, hz0, hz1, hz2⟩ := info_parts Try.infoNum
  have HE := Nu.hid he
  have hva := fun W (hb : Below w.heap.size w W) => rvalid_any n ao cap es W (he.later hb) hl
  unfold graphVal at hva ⊢
  have HVA := Nu.hid hva
  clear he hva
  have hbw0 : Below w.heap.size w (w.alloc (.cells #[.int .i64 n, .slice ao es.length cap] 24)) := (Below.refl _ _).alloc (Nat.le_refl _) _
  have HBW0 := Nu.hid hbw0
  clear hbw0
  cases hv : Si.valid n es with
  | false =>
    rw [hv] at HVA
    have HV := Nu.hid hv
    clear hv
    go_enter Try.func11, Try.ntmps11
    go_wp2_with (go_at_call 20; refine (HVA.out _ HBW0.out).mono ?_; rintro e w' ⟨rfl, hb⟩; refine Hid.out ?_)
    refine Nu.hid ?_
    have HB := Nu.hid (HBW0.out.trans (hb.mono HBW0.out.size))
    clear hb
    go_wp2
    go_ret3
    exact ⟨.inr ⟨HV.out, rfl⟩, HB.out⟩
  | true =>
    rw [hv] at HVA
    have hval := Si.valid_iff.1 hv
    have hfew := hval.few
    have hlo := hval.lo
    have hhi := hval.hi
    obtain ⟨n, rfl⟩ : ∃ m : Nat, n = (m : Int) := ⟨n.toNat, by omega⟩
    have HV := Nu.hid hv
    have HCL := Nu.hid (fun W (hb : Below w.heap.size w W) => classes_any n ao cap es W (HE.out.later hb) hval)
    unfold graphVal at HCL
    clear hval hv
    go_enter Try.func11, Try.ntmps11
    go_wp2_with (go_at_call 20; refine (HVA.out _ HBW0.out).mono ?_; rintro e w1 ⟨rfl, hb⟩; refine Hid.out ?_)
    refine Nu.hid ?_
    have hG : w1.heap[w.heap.size]? = some (.cells #[.int .i64 n, .slice ao es.length cap] 24 (0, 0)) := (hb.block _ (by simp)).trans (heap_alloc_new w _)
    have HB1 := Nu.hid (HBW0.out.trans (hb.mono HBW0.out.size))
    obtain ⟨x0, x1, -⟩ := pair_cells hG
    clear hb hG HVA
    go_wp2_with (go_at_call 28; refine (HCL.out _ HB1.out).mono ?_; rintro e w2 ⟨m, g, rfl, hg, hic, hC, hb2⟩; refine Hid.out ?_)
    refine Nu.hid ?_
    have HC := Nu.hid hC
    have HIC := Nu.hid hic
    have HB2 := Nu.hid (HB1.out.trans (hb2.mono HB1.out.size))
    have HNM := Nu.hid hC.norm
    have hwg : w.heap.size ≤ g := Nat.le_trans HB1.out.size hg
    have hgl := hic.lt
    clear hC hic hb2 hg x0 x1 HCL
    go_wp2_with (at_make; refine wpList_make_full _ rfl _ _ 26 rfl w2.heap.size 3 i0 (.int .i64 0) 1 Try.underlying26 hi hz0 hz1 _ _ _ _ es.length rfl rfl rfl rfl (by rw [hz2]; omega) (by unfold maxLen; omega) (Nat.le_refl _) ?_; refine Hid.out ?_)
    refine Nu.hid ?_
    intro w3 hrow hg3
    rw [made_zeros] at hrow
    have hik := ints_of_row hrow
    rw [← Bl.nums_zero] at hik
    have hb3 : Below w2.heap.size w2 w3 := (Below.refl _ _).grown hg3 (Nat.le_refl _) (fun j hj => by cases hj)
    have HB3 := Nu.hid (HB2.out.trans (hb3.mono HB2.out.size))
    have HIC3 := Nu.hid (HIC.out.later hb3)
    have HI3 := Nu.hid hik
    have hwl : w.heap.size ≤ w2.heap.size := HB2.out.size
    clear hrow hg3 hik hb3
    go_wp2
    go_loopw [8, 9] (fun cn cv wr => ∃ k : Nat, k ≤ es.length ∧ cv = .int .i64 (k : Int) ∧ cn = .int .i64 (Bl.cntB m k : Int) ∧ IntsBlk wr w2.heap.size (Bl.nums es.length (Bl.begB m k)) ∧ IntsBlk wr g (Bl.nums es.length m) ∧ Below w.heap.size w wr) (fun _ cv _ => es.length - (intOf cv).toNat)
    case atStart => exact ⟨0, Nat.zero_le _, rfl, rfl, by rw [Bl.nums_congr (f := Bl.begB m 0) (g := fun _ => 0) (fun i _ => by unfold Bl.begB; rw [if_neg (by omega)])]; exact HI3.out, HIC3.out, HB3.out⟩
    case round =>
      obtain ⟨k, hk, rfl, rfl, hI, hic, hb⟩ := hrel
      have HI := Nu.hid hI
      have HIK := Nu.hid hic
      have HB := Nu.hid hb
      have hcl := Bl.cntB_le m k
      by_cases hkn : k < es.length
      · have hlti : (k : Int) < (es.length : Int) := by omega
        have hk0 : (0 : Int) ≤ (k : Int) := by omega
        have cm := hic.cell (Bl.nums_at (f := m) hkn)
        have ck := hI.cell (Bl.nums_at (f := Bl.begB m k) hkn)
        have cf := hI.free
        have hle := HNM.out.le k hkn
        have n1 := hI.set k (Bl.numB m k : Int)
        rw [Bl.nums_set _ hkn, Bl.nums_congr (fun i _ => Bl.begB_next m k i)] at n1
        have HN := Nu.hid n1
        have hng : g ≠ w2.heap.size := by omega
        have HIN : Hid (IntsBlk (wr.setCell ⟨w2.heap.size, k, none⟩ (.int .i64 (Bl.numB m k : Int))) g (Bl.nums es.length m)) := (heap_setCell_other wr ⟨w2.heap.size, k, none⟩ g _ hng).trans hic
        have HBN := Nu.hid (hb.setCell (p := ⟨w2.heap.size, k, none⟩) hwl (.int .i64 (Bl.numB m k : Int)))
        by_cases hm : m k = k
        · have hd : ((m k : Int) == (k : Int)) = true := by simp [hm]
          have hnk : Bl.numB m k = Bl.cntB m k := by unfold Bl.numB; rw [hm]
          rw [hnk] at HN HIN HBN
          have HY := Nu.hid (Bl.cntB_yes hm)
          clear hI hic hb n1 hm hnk
          go_wp2
          go_roundw
          case rel => exact ⟨k + 1, by omega, by go_num, by rw [HY.out]; go_num, HN.out, HIN.out, HBN.out⟩
          case measure => simp [intOf]; omega
        · have hd : ((m k : Int) == (k : Int)) = false := by simp; omega
          have hmk : m k < k := by omega
          have hml : m k < es.length := by omega
          have cn := hI.cell (Bl.nums_at (f := Bl.begB m k) hml)
          have hnk : Bl.begB m k (m k) = Bl.numB m k := by
            unfold Bl.begB
            rw [if_pos hmk]
            unfold Bl.numB
            rw [HNM.out.idem k hkn]
          rw [hnk] at cn
          have m0 : (0 : Int) ≤ (m k : Int) := by omega
          have m1 : (m k : Int) < (es.length : Int) := by omega
          have HY := Nu.hid (Bl.cntB_no hm)
          clear hI hic hb n1 hm hnk
          go_wp2
          go_roundw
          case rel => exact ⟨k + 1, by omega, by go_num, by rw [HY.out], HN.out, HIN.out, HBN.out⟩
          case measure => simp [intOf]; omega
      · have hlti : ¬ (k : Int) < (es.length : Int) := by omega
        obtain rfl : k = es.length := by omega
        have HIE : Hid (IntsBlk wr w2.heap.size (Bl.nums es.length (Bl.numB m))) := by
          show IntsBlk _ _ _
          rw [Bl.nums_congr (f := Bl.numB m) (g := Bl.begB m es.length) (fun i hi => by unfold Bl.begB; rw [if_pos hi])]
          exact hI
        clear hI hic hb
        go_wp2
        go_ret3
        exact ⟨.inl ⟨m, w2.heap.size, HV.out, rfl, hwl, HIE.out, HC.out⟩, HB.out⟩
end Go.Proofs.Ytalfpbalekbinaa

/-
  Blocks, pure: what the finder has found, numbered by least edges.
-/
namespace Go.Proofs.Ytalfpbalekbinaa
namespace Bl
open Df Lo

/-- Rising lists with the same members are one. -/
theorem rising_ext : ∀ {l l' : List Nat}, l.Pairwise (fun a b => a < b) → l'.Pairwise (fun a b => a < b) → (∀ x, x ∈ l ↔ x ∈ l') → l = l'
  | [], [], _, _, _ => rfl
  | [], b :: l', _, _, h => absurd ((h b).2 List.mem_cons_self) (by simp)
  | a :: l, [], _, _, h => absurd ((h a).1 List.mem_cons_self) (by simp)
  | a :: l, b :: l', h1, h2, h => by
    obtain ⟨a1, a2⟩ := List.pairwise_cons.1 h1
    obtain ⟨b1, b2⟩ := List.pairwise_cons.1 h2
    have e : a = b := by
      rcases List.mem_cons.1 ((h a).1 List.mem_cons_self) with e | ha
      · exact e
      · rcases List.mem_cons.1 ((h b).2 List.mem_cons_self) with e | hb
        · exact e.symm
        · have := a1 b hb
          have := b1 a ha
          omega
    subst e
    rw [rising_ext a2 b2 fun x => ?_]
    constructor
    · intro hx
      rcases List.mem_cons.1 ((h x).1 (List.mem_cons_of_mem _ hx)) with e | hx'
      · have := a1 x hx
        omega
      · exact hx'
    · intro hx
      rcases List.mem_cons.1 ((h x).2 (List.mem_cons_of_mem _ hx)) with e | hx'
      · have := b1 x hx
        omega
      · exact hx'
theorem range_rising (p : Nat → Bool) (n : Nat) : ((List.range n).filter p).Pairwise (fun a b => a < b) := List.Pairwise.filter _ List.pairwise_lt_range
theorem filter_len (p : Nat → Bool) (n : Nat) : ((List.range n).filter p).length = Co.cntTo p n := by
  induction n with
  | zero => rfl
  | succ n ih =>
    rw [Co.cntTo, ← ih, List.range_succ, List.filter_append, List.length_append]
    cases hp : p n <;> simp [hp]
/-- How many stand ahead. -/
theorem filter_at (p : Nat → Bool) : ∀ (n i t : Nat), ((List.range n).filter p)[i]? = some t → i = Co.cntTo p t ∧ t < n ∧ p t = true
  | 0, i, t, h => by simp at h
  | n + 1, i, t, h => by
    rw [List.range_succ, List.filter_append] at h
    by_cases hi : i < ((List.range n).filter p).length
    · rw [List.getElem?_append_left hi] at h
      obtain ⟨a, b, c⟩ := filter_at p n i t h
      exact ⟨a, by omega, c⟩
    · rw [List.getElem?_append_right (by omega)] at h
      cases hp : p n with
      | false => simp [hp] at h
      | true =>
        rw [List.filter_cons_of_pos hp] at h
        have h0 : i - ((List.range n).filter p).length = 0 := by
          have := (List.getElem?_eq_some_iff.1 h).1
          simp at this
          omega
        rw [h0] at h
        have : n = t := by simpa using h
        subst this
        refine ⟨?_, by omega, hp⟩
        have := filter_len p n
        omega
theorem filter_get (p : Nat → Bool) {n t : Nat} (ht : t < n) (hp : p t = true) : ((List.range n).filter p)[Co.cntTo p t]? = some t := by
  have hm : t ∈ (List.range n).filter p := List.mem_filter.2 ⟨List.mem_range.2 ht, hp⟩
  obtain ⟨i, hi⟩ := List.getElem?_of_mem hm
  rw [← (filter_at p n i t hi).1]
  exact hi

section
variable {n : Nat} {es : List (Int × Int)} {s : St} {F : List (List Nat)}

open Classical in
/-- The least edge of an edge's block. -/
noncomputable def mB (es : List (Int × Int)) (s : St) (e : Nat) : Nat := mn ((List.range es.length).filter fun i => decide (hdf es s i = hdf es s e))

theorem mB_mem {e : Nat} (he : e < es.length) : mB es s e < es.length ∧ hdf es s (mB es s e) = hdf es s e := by
  classical
  have := mn_mem (l := (List.range es.length).filter fun i => decide (hdf es s i = hdf es s e)) (fun h => by
    have : e ∈ (List.range es.length).filter fun i => decide (hdf es s i = hdf es s e) := List.mem_filter.2 ⟨List.mem_range.2 he, by simp⟩
    rw [h] at this
    cases this)
  rw [List.mem_filter, List.mem_range, decide_eq_true_iff] at this
  exact this
theorem mB_le {e i : Nat} (hi : i < es.length) (h : hdf es s i = hdf es s e) : mB es s e ≤ i := by
  classical
  exact mn_le i (List.mem_filter.2 ⟨List.mem_range.2 hi, by simpa using h⟩)
theorem mB_eq {e i : Nat} (h : hdf es s i = hdf es s e) : mB es s i = mB es s e := by
  unfold mB
  rw [h]
theorem mB_iff {e i : Nat} (he : e < es.length) (hi : i < es.length) : mB es s i = mB es s e ↔ hdf es s i = hdf es s e :=
  ⟨fun h => by rw [← (mB_mem hi).2, ← (mB_mem he).2, h], mB_eq⟩
theorem mB_norm : Co.Norm es.length (mB es s) := ⟨fun _ hx => mB_le hx rfl, fun _ hx => mB_eq (mB_mem hx).2⟩
/-- A class function in its one form is this one. -/
theorem mB_one {m : Nat → Nat} (hn : Co.Norm es.length m) (h : ∀ i k, i < es.length → k < es.length → (m i = m k ↔ hdf es s i = hdf es s k)) {e : Nat} (he : e < es.length) : m e = mB es s e := by
  obtain ⟨h1, h2⟩ := mB_mem (s := s) he
  have h3 := (h _ _ h1 he).2 h2
  have h4 := hn.le _ h1
  have h5 : mB es s e ≤ m e := mB_le (hn.lt he) ((h _ _ (hn.lt he) he).1 (hn.idem e he))
  omega

/-- The blocks, each once. -/
structure Parted (es : List (Int × Int)) (s : St) (F : List (List Nat)) : Prop where
  one : ∀ L ∈ F, L ≠ [] ∧ L.Nodup ∧ ∃ c, ∀ e, e ∈ L ↔ (e < es.length ∧ hdf es s e = c)
  all : ∀ e, e < es.length → ∃ L ∈ F, e ∈ L
  apart : F.Pairwise fun B B' => ∀ e ∈ B, e ∉ B'

theorem Fi.parted (hv : Si.Val n es) (h : VF n es s) {S : List (Nat × Int)} {Y : List Nat} (f : Fi es s (fun e => En s n (ev es s e)) [] S Y F) : Parted es s F := by
  refine ⟨fun L hL => ?_, fun e he => ?_, f.apart⟩
  · obtain ⟨c, _, _, _, _, h1, h2⟩ := f.one L hL
    exact ⟨f.full hv h L hL, h1, c, h2⟩
  · have hd := hdf_of hv h he
    obtain ⟨B, hB, hc⟩ := f.all _ hd.lt.2.1 hd.lt.2.2 (en_all h (ev_lt hv h hd.lt.2.1)) (by simp)
    obtain ⟨c, _, _, _, _, _, h2⟩ := f.one B hB
    have := (h2 _).1 hc
    rw [hdf_eq hv h (.self hd.lt.2.1 hd.lt.2.2)] at this
    exact ⟨B, hB, (h2 e).2 ⟨he, this.2⟩⟩

theorem Parted.mem (p : Parted es s F) {L : List Nat} (hL : L ∈ F) {e : Nat} (he : e ∈ L) (i : Nat) : i ∈ L ↔ i < es.length ∧ hdf es s i = hdf es s e := by
  obtain ⟨_, _, c, h⟩ := p.one L hL
  rw [h i, ((h e).1 he).2]
theorem Parted.lt (p : Parted es s F) {L : List Nat} (hL : L ∈ F) {e : Nat} (he : e ∈ L) : e < es.length := ((p.mem hL he e).1 he).1
theorem Parted.mn (p : Parted es s F) {L : List Nat} (hL : L ∈ F) {e : Nat} (he : e ∈ L) : Bl.mn L = mB es s e := by
  have h1 := mn_mem (p.one L hL).1
  have h2 := (p.mem hL he _).1 h1
  have h3 := mB_mem (s := s) (p.lt hL he)
  have h4 := mn_le _ ((p.mem hL he _).2 h3)
  have h5 := mB_le h2.1 h2.2
  omega
theorem Parted.same (p : Parted es s F) {L L' : List Nat} (hL : L ∈ F) (hL' : L' ∈ F) (h : Bl.mn L = Bl.mn L') : L = L' := by
  have h1 := mn_mem (p.one L hL).1
  have h2 := mn_mem (p.one L' hL').1
  rw [← h] at h2
  obtain ⟨i, hi⟩ := List.getElem?_of_mem hL
  obtain ⟨j, hj⟩ := List.getElem?_of_mem hL'
  obtain ⟨hil, ei⟩ := List.getElem?_eq_some_iff.1 hi
  obtain ⟨hjl, ej⟩ := List.getElem?_eq_some_iff.1 hj
  rcases Nat.lt_trichotomy i j with hij | hij | hij
  · have := List.pairwise_iff_getElem.1 p.apart i j hil hjl hij (Bl.mn L) (by rw [ei]; exact h1)
    rw [ej] at this
    exact absurd h2 this
  · subst hij
    rw [← ei, ← ej]
  · have := List.pairwise_iff_getElem.1 p.apart j i hjl hil hij (Bl.mn L) (by rw [ej]; exact h2)
    rw [ei] at this
    exact absurd h1 this
theorem Parted.nodup (p : Parted es s F) : (F.map Bl.mn).Nodup := nodup_map_mn (fun L hL => (p.one L hL).1) p.apart
theorem Parted.few (p : Parted es s F) : F.length ≤ es.length := by
  have := nodup_sub (l1 := F.map Bl.mn) (l2 := List.range es.length) p.nodup (fun x hx => by
    obtain ⟨B, hB, rfl⟩ := List.mem_map.1 hx
    exact List.mem_range.2 (p.lt hB (mn_mem (p.one B hB).1)))
  simpa using this

/-- The keys are the least edges. -/
theorem Parted.keys (p : Parted es s F) {K : List Nat} (h1 : K.Pairwise (fun a b => a < b)) (h2 : ∀ k, k ∈ K ↔ ∃ L ∈ F, k = Bl.mn L) : K = (List.range es.length).filter fun e => decide (mB es s e = e) := by
  refine rising_ext h1 (range_rising _ _) fun k => ?_
  rw [h2 k, List.mem_filter, List.mem_range, decide_eq_true_iff]
  constructor
  · rintro ⟨L, hL, rfl⟩
    have hm := mn_mem (p.one L hL).1
    exact ⟨p.lt hL hm, (p.mn hL hm).symm⟩
  · rintro ⟨hk, e⟩
    obtain ⟨L, hL, hkL⟩ := p.all k hk
    exact ⟨L, hL, by rw [p.mn hL hkL, e]⟩
theorem cntB_eq (m : Nat → Nat) (k : Nat) : cntB m k = Co.cntTo (fun i => decide (m i = i)) k := rfl
/-- The number of a block, by its place among the keys. -/
theorem Parted.num (p : Parted es s F) {K : List Nat} (hK : K = (List.range es.length).filter fun e => decide (mB es s e = e)) {i : Nat} {L : List Nat} (hL : L ∈ F) (hi : K[i]? = some (Bl.mn L)) {e : Nat} (he : e ∈ L) : i = numB (mB es s) e := by
  rw [hK] at hi
  obtain ⟨h1, _, _⟩ := filter_at _ _ _ _ hi
  rw [h1, p.mn hL he]
  rfl
theorem keys_len {K : List Nat} (hK : K = (List.range es.length).filter fun e => decide (mB es s e = e)) : K.length = cntB (mB es s) es.length := by
  rw [hK, filter_len]
  rfl
theorem numB_lt {e : Nat} (he : e < es.length) : numB (mB es s) e < cntB (mB es s) es.length := by
  have h1 := (mB_mem (s := s) he).1
  have h2 := filter_get (fun i => decide (mB es s i = i)) h1 (by simpa using mB_norm.idem e he)
  have h3 := (List.getElem?_eq_some_iff.1 h2).1
  rw [filter_len] at h3
  exact h3
theorem numB_iff {e i : Nat} (he : e < es.length) (hi : i < es.length) : numB (mB es s) e = numB (mB es s) i ↔ mB es s e = mB es s i := by
  constructor
  · intro h
    have h1 := filter_get (fun i => decide (mB es s i = i)) (mB_mem (s := s) he).1 (by simpa using mB_norm.idem e he)
    have h2 := filter_get (fun i => decide (mB es s i = i)) (mB_mem (s := s) hi).1 (by simpa using mB_norm.idem i hi)
    unfold numB at h
    rw [cntB_eq, cntB_eq] at h
    rw [h, h2] at h1
    exact (Option.some.inj h1).symm
  · intro h
    unfold numB
    rw [h]
end
end Bl
end Go.Proofs.Ytalfpbalekbinaa
