import Derived.Test.YtalfpbalekbinaaGreatMg02
import Derived.Test.YtalfpbalekbinaaGreatMg34
import Derived.Test.YtalfpbalekbinaaGreatMg03
import Derived.Test.YtalfpbalekbinaaGreatMg10
import Derived.Deep.Slices
/-
  Whether a graph is valid, as the document asks it.
-/
namespace Go.Proofs.YtalfpbalekbinaaGreat
open Go.RowKit Go.Sort

set_option maxRecDepth 100000 in
set_option maxHeartbeats 8000000 in
theorem rvalid_any (n : Int) (ao : Option Addr) (cap : Nat) (es : List (Int × Int)) (w : World) (he : EdgesAt w ao es) (hl : es.length ≤ 4611686018427387904) :
    Calls Tryz.prog 8 #[graphVal n ao es.length cap] w fun e w' => e = .returned (.bool (Si.valid n es)) ∧ Below w.heap.size w w' := by
  have HE := Nu.hid he
  clear he
  unfold graphVal
  by_cases h1 : n < 0
  · have hv := Si.valid_no (n := n) (es := es) (fun h => by have := h.lo; omega)
    rw [hv]
    go_enter Tryz.func8, Tryz.ntmps8
    go_wp2
    go_ret
    exact ⟨rfl, (Below.refl _ _).alloc (Nat.le_refl _) _⟩
  by_cases h2 : 1048576 < n
  · have hv := Si.valid_no (n := n) (es := es) (fun h => by have := h.hi; omega)
    rw [hv]
    go_enter Tryz.func8, Tryz.ntmps8
    go_wp2
    go_ret
    exact ⟨rfl, (Below.refl _ _).alloc (Nat.le_refl _) _⟩
  by_cases h3 : 4194304 < (es.length : Int)
  · have hv := Si.valid_no (n := n) (es := es) (fun h => by have := h.few; omega)
    rw [hv]
    go_enter Tryz.func8, Tryz.ntmps8
    go_wp2
    go_ret
    exact ⟨rfl, (Below.refl _ _).alloc (Nat.le_refl _) _⟩
  go_enter Tryz.func8, Tryz.ntmps8
  go_wp2
  go_loopw [3] (fun c wr => ∃ (k : Nat) (l : Int × Int), k ≤ es.length ∧ c = .int .i64 k ∧ Si.UpTo n es k l ∧ wr.heap[w.heap.size]? = some (.cells #[.int .i64 n, .slice ao es.length cap] 24 (0, 0)) ∧ Below w.heap.size w wr) (fun c _ => es.length - (intOf c).toNat)
  case atStart => exact ⟨0, (0, 0), Nat.zero_le _, rfl, Si.UpTo.start n es, heap_alloc_new w _, (Below.refl _ _).alloc (Nat.le_refl _) _⟩
  case round =>
    obtain ⟨k, l, hk, rfl, hup, hgb, hb⟩ := hrel
    obtain ⟨g0, g1, -⟩ := pair_cells hgb
    have hsz0 := lt_of_block hgb
    have HGB := Nu.hid hgb
    have HUP := Nu.hid hup
    have HB := Nu.hid hb
    clear hgb hup
    by_cases hlt : k < es.length
    · have hlti : (k : Int) < (es.length : Int) := by omega
      have hk0 : (0 : Int) ≤ (k : Int) := by omega
      obtain ⟨p, hp⟩ : ∃ p, es[k]? = some p := ⟨_, List.getElem?_eq_getElem hlt⟩
      obtain ⟨b, o, rfl, c0, c1⟩ := (HE.out.later hb) k p hp
      have hbl : b < wr.heap.size := block_lt_of_cell c0
      have HP := Nu.hid hp
      clear hp
      by_cases q1 : p.1 < 0
      · have hv := Si.valid_no (n := n) (es := es) (fun h => by have := (HUP.out.must h HP.out).1.1; omega)
        clear hb
        go_wp2
        go_ret
        exact ⟨by first | rfl | exact congrArg (fun b => Ending.returned (.bool b)) hv.symm, HB.out.alloc (by omega) _⟩
      by_cases q2 : p.1 < p.2
      rotate_left
      · have hv := Si.valid_no (n := n) (es := es) (fun h => by have := (HUP.out.must h HP.out).1.2.1; omega)
        clear hb
        go_wp2
        go_ret
        exact ⟨by first | rfl | exact congrArg (fun b => Ending.returned (.bool b)) hv.symm, HB.out.alloc (by omega) _⟩
      by_cases q3 : p.2 < n
      rotate_left
      · have hv := Si.valid_no (n := n) (es := es) (fun h => by have := (HUP.out.must h HP.out).1.2.2; omega)
        clear hb
        go_wp2
        go_ret
        exact ⟨by first | rfl | exact congrArg (fun b => Ending.returned (.bool b)) hv.symm, HB.out.alloc (by omega) _⟩
      have hok : Si.ok n p := ⟨by omega, q2, q3⟩
      have hbA : Below wr.heap.size wr (wr.alloc (.cells #[.int .i64 p.1, .int .i64 p.2] 46)) := (Below.refl _ _).alloc (Nat.le_refl _) _
      by_cases hkz : k = 0
      · have hkn : ¬ ((0 : Int) < (k : Int)) := by omega
        have hlt0 : Si.lt l p := by
          have := HUP.out
          rw [hkz] at this
          exact this.first hok
        have HST := Nu.hid (HUP.out.step HP.out hok hlt0)
        have HBA := Nu.hid (HB.out.trans (hbA.mono HB.out.size))
        have HG2 := Nu.hid ((hbA.block _ hsz0).trans HGB.out)
        clear hok hbA hb hkz hlt0
        go_wp2
        go_roundw
        case rel => exact ⟨k + 1, p, by omega, by go_num, HST.out, HG2.out, HBA.out⟩
        case measure => simp [intOf]; omega
      · obtain ⟨k', hk'⟩ : ∃ k', k = k' + 1 := ⟨k - 1, by omega⟩
        have hl' : es[k']? = some l := by
          have := HUP.out
          rw [hk'] at this
          exact this.last
        obtain ⟨b2, o2, e2, d0, d1⟩ := (HE.out.later hb) k' l hl'
        cases e2
        have hk1 : (k : Int) - 1 = (k' : Int) := by omega
        have hkw : IntKind.i64.wrap (k' : Int) = (k' : Int) := by simp [IntKind.wrap, IntKind.bits, IntKind.signed]; omega
        have hk'0 : (0 : Int) ≤ (k' : Int) := by omega
        have hk'l : (k' : Int) < (es.length : Int) := by omega
        have hkp : (0 : Int) < (k : Int) := by omega
        have hca := fun W => less_any l p W
        unfold edgeVal at hca
        have HK := Nu.hid hk'
        clear hk' hl' hkz hb
        have HBA := Nu.hid hbA
        have y0 := (hbA.cell (p := ⟨b, o + k' * 2, none⟩) hbl).trans d0
        have y1 := (hbA.cell (p := ⟨b, o + k' * 2 + 1, none⟩) hbl).trans d1
        have z0 := (hbA.cell (p := ⟨w.heap.size, 0, none⟩) hsz0).trans g0
        have z1 := (hbA.cell (p := ⟨w.heap.size, 1, none⟩) hsz0).trans g1
        obtain ⟨p0, p1, -⟩ := pair_cells (heap_alloc_new wr (.cells #[.int .i64 p.1, .int .i64 p.2] 46))
        have hsA : (wr.alloc (.cells #[.int .i64 p.1, .int .i64 p.2] 46)).heap.size = wr.heap.size + 1 := by simp
        by_cases q4 : Si.lt l p
        · have hd : decide (Si.lt l p) = true := by simp [q4]
          rw [hd] at hca
          have HCA := Nu.hid hca
          have HST := Nu.hid (HUP.out.step HP.out hok q4)
          clear hca hd hok hbA d0 d1
          go_wp2_with fail
          generalize hX : wr.alloc (.cells #[.int .i64 p.1, .int .i64 p.2] 46) = X at y0 y1 z0 z1 p0 p1 hsA HBA ⊢
          clear hX c0 c1 g0 g1
          go_region_held3 (fun w' => w'.cell? ⟨b, o + k' * 2, none⟩ = some (.int .i64 l.1) ∧ w'.cell? ⟨b, o + k' * 2 + 1, none⟩ = some (.int .i64 l.2) ∧ w'.cell? ⟨w.heap.size, 1, none⟩ = some (.slice (some ⟨b, o, none⟩) es.length cap) ∧ w'.cell? ⟨wr.heap.size, 0, none⟩ = some (.int .i64 p.1) ∧ w'.cell? ⟨wr.heap.size, 1, none⟩ = some (.int .i64 p.2))
            (first
              | go_keep
              | (go_split_ands
                 refine ⟨?_, ?_, ?_, ?_, ?_⟩ <;> (refine (hb2.cell (p := ⟨_, _, none⟩) ?_).trans ?_ <;> first | assumption | (simp; omega))))
            ((go_at_call 20; refine (HCA.out _).mono ?_; rintro e w2 ⟨rfl, hgr⟩; have hb2 : Below X.heap.size X w2 := (Below.refl X.heap.size X).drew.trans (grown_of_grow hgr)))
          have hb3 : Below wr.heap.size wr w2 := HBA.out.trans (hb2.mono (by omega))
          have HB3 := Nu.hid (HB.out.trans (hb3.mono HB.out.size))
          have HG3 := Nu.hid ((hb3.block _ hsz0).trans HGB.out)
          clear hb2 hb3 hgr
          go_wp2
          go_roundw
          case rel => exact ⟨k + 1, p, by omega, by go_num, HST.out, HG3.out, HB3.out⟩
          case measure => simp [intOf]; omega
        · have hv := Si.valid_no (n := n) (es := es) (fun h => q4 (HUP.out.must h HP.out).2)
          have HV := Nu.hid hv
          have hd : decide (Si.lt l p) = false := by simp [q4]
          rw [hd] at hca
          have HCA := Nu.hid hca
          clear hca hd hok hbA d0 d1 hv
          go_wp2_with fail
          generalize hX : wr.alloc (.cells #[.int .i64 p.1, .int .i64 p.2] 46) = X at y0 y1 z0 z1 p0 p1 hsA HBA ⊢
          clear hX c0 c1 g0 g1
          go_region_held3 (fun w' => w'.cell? ⟨b, o + k' * 2, none⟩ = some (.int .i64 l.1) ∧ w'.cell? ⟨b, o + k' * 2 + 1, none⟩ = some (.int .i64 l.2) ∧ w'.cell? ⟨w.heap.size, 1, none⟩ = some (.slice (some ⟨b, o, none⟩) es.length cap) ∧ w'.cell? ⟨wr.heap.size, 0, none⟩ = some (.int .i64 p.1) ∧ w'.cell? ⟨wr.heap.size, 1, none⟩ = some (.int .i64 p.2))
            (first
              | go_keep
              | (go_split_ands
                 refine ⟨?_, ?_, ?_, ?_, ?_⟩ <;> (refine (hb2.cell (p := ⟨_, _, none⟩) ?_).trans ?_ <;> first | assumption | (simp; omega))))
            ((go_at_call 20; refine (HCA.out _).mono ?_; rintro e w2 ⟨rfl, hgr⟩; have hb2 : Below X.heap.size X w2 := (Below.refl X.heap.size X).drew.trans (grown_of_grow hgr)))
          have hb3 : Below wr.heap.size wr w2 := HBA.out.trans (hb2.mono (by omega))
          have HB3 := Nu.hid (HB.out.trans (hb3.mono HB.out.size))
          clear hb2 hb3 hgr
          go_wp2
          go_ret
          exact ⟨by rw [HV.out]; rfl, HB3.out⟩
    · have hd : ¬ ((k : Int) < (es.length : Int)) := by omega
      obtain rfl : k = es.length := by omega
      have hv := Si.valid_iff.2 (HUP.out.done (by omega) (by omega) (by omega))
      have HV := Nu.hid hv
      clear hb hv
      go_wp2
      go_ret
      exact ⟨by rw [HV.out]; rfl, HB.out⟩

end Go.Proofs.YtalfpbalekbinaaGreat

/-
  How many edges each vertex has, as the document counts them.
-/
namespace Go.Proofs.YtalfpbalekbinaaGreat
open Go.RowKit Go.Sort

set_option maxRecDepth 100000 in
set_option maxHeartbeats 8000000 in
theorem rdegrees_any (n : Int) (ao : Option Addr) (cap : Nat) (es : List (Int × Int)) (w : World) (he : EdgesAt w ao es) (hl : es.length ≤ 4611686018427387904) :
    Calls Tryz.prog 10 #[graphVal n ao es.length cap] w (DegPost n es w) := by
  obtain ⟨i0, hi, hz0, hz1, hz2⟩ := info_parts Tryz.infoNum
  have HE := Nu.hid he
  have hva := fun W (hb : Below w.heap.size w W) => rvalid_any n ao cap es W (he.later hb) hl
  unfold graphVal at hva ⊢
  have HVA := Nu.hid hva
  clear he hva
  have hbw0 : Below w.heap.size w (w.alloc (.cells #[.int .i64 n, .slice ao es.length cap] 24)) := (Below.refl _ _).alloc (Nat.le_refl _) _
  have HBW0 := Nu.hid hbw0
  clear hbw0
  cases hv : Si.valid n es with
  | false =>
    rw [hv] at HVA
    have HV := Nu.hid hv
    clear hv
    go_enter Tryz.func10, Tryz.ntmps10
    go_wp2_with (go_at_call 8; refine (HVA.out _ HBW0.out).mono ?_; rintro e w' ⟨rfl, hb⟩; refine Hid.out ?_)
    refine Nu.hid ?_
    have HB := Nu.hid (HBW0.out.trans (hb.mono HBW0.out.size))
    clear hb
    go_wp2
    go_ret2
    exact ⟨.inr ⟨HV.out, rfl⟩, HB.out⟩
  | true =>
    rw [hv] at HVA
    have hval := Si.valid_iff.1 hv
    have hfew := hval.few
    have hlo := hval.lo
    have hhi := hval.hi
    obtain ⟨m, rfl⟩ : ∃ m : Nat, n = (m : Int) := ⟨n.toNat, by omega⟩
    have HVAL := Nu.hid hval
    have HV := Nu.hid hv
    clear hval hv
    go_enter Tryz.func10, Tryz.ntmps10
    go_wp2_with (go_at_call 8; refine (HVA.out _ HBW0.out).mono ?_; rintro e w' ⟨rfl, hb⟩; refine Hid.out ?_)
    refine Nu.hid ?_
    have hG : w'.heap[w.heap.size]? = some (.cells #[.int .i64 m, .slice ao es.length cap] 24 (0, 0)) := (hb.block _ (by simp)).trans (heap_alloc_new w _)
    have HB := Nu.hid (HBW0.out.trans (hb.mono HBW0.out.size))
    have hsG := lt_of_block hG
    obtain ⟨g0, g1, -⟩ := pair_cells hG
    have HG := Nu.hid hG
    clear hb hG
    go_wp2_with (at_make; refine wpList_make_full _ rfl _ _ 26 rfl w'.heap.size 3 i0 (.int .i64 0) 1 Tryz.underlying26 hi hz0 hz1 _ _ _ _ m rfl rfl rfl rfl (by rw [hz2]; omega) (by unfold maxLen; omega) (Nat.le_refl _) ?_; refine Hid.out ?_)
    refine Nu.hid ?_
    intro w2 hrow hg2
    rw [made_zeros] at hrow
    have hik := ints_of_row hrow
    have hb2 : Below w'.heap.size w' w2 := (Below.refl _ _).grown hg2 (Nat.le_refl _) (fun j hj => by cases hj)
    have HB2 := Nu.hid (HB.out.trans (hb2.mono HB.out.size))
    have HG2 := Nu.hid ((hb2.block _ hsG).trans HG.out)
    have hs2 : w'.heap.size < w2.heap.size := hik.lt
    have HIK : Hid (IntsBlk w2 w'.heap.size (Si.degs m [])) := by
      show IntsBlk _ _ _
      have : Si.degs m [] = List.replicate m 0 := by simp [Si.degs]
      rw [this]
      exact hik
    have hwg : w.heap.size ≤ w'.heap.size := by omega
    have hsG2 : w.heap.size < w2.heap.size := by omega
    clear hrow hg2 hb2 hik g0 g1
    go_wp2
    go_loopw [6] (fun c wr => ∃ (k : Nat) (l : List Int), k ≤ es.length ∧ c = .int .i64 k ∧ l = Si.degs m (es.take k) ∧ IntsBlk wr w'.heap.size l ∧ wr.heap[w.heap.size]? = some (.cells #[.int .i64 m, .slice ao es.length cap] 24 (0, 0)) ∧ Below w.heap.size w wr) (fun c _ => es.length - (intOf c).toNat)
    case atStart => exact ⟨0, _, Nat.zero_le _, rfl, by simp, HIK.out, HG2.out, HB2.out⟩
    case round =>
      obtain ⟨k, l, hk, rfl, hl0, hik, hgr, hb⟩ := hrel
      obtain ⟨-, k1, -⟩ := pair_cells hgr
      have HGR := Nu.hid hgr
      have hsgr := lt_of_block hgr
      clear hgr
      have hsw := hik.lt
      have hs0 := hb.size
      have hll : l.length = m := by rw [hl0, Si.degs_length]; simp
      have hup : Si.Upto (2 * k) l := by
        rw [hl0]
        have := Si.degs_upto m (es.take k)
        have e : (es.take k).length = k := by simp; omega
        rw [e] at this
        exact this
      have HIKR := Nu.hid hik
      have HB3 := Nu.hid hb
      have HL0 := Nu.hid hl0
      clear hl0
      by_cases hlt : k < es.length
      · have hlti : (k : Int) < (es.length : Int) := by omega
        have hk0 : (0 : Int) ≤ (k : Int) := by omega
        obtain ⟨p, hp⟩ : ∃ p, es[k]? = some p := ⟨_, List.getElem?_eq_getElem hlt⟩
        obtain ⟨b, o, rfl, q0, -⟩ := HE.out k p hp
        have hb0 : b < w.heap.size := block_lt_of_cell q0
        obtain ⟨b', o', e', c0, c1⟩ := (HE.out.later hb) k p hp
        cases e'
        have hbl : b < wr.heap.size := block_lt_of_cell c0
        clear q0
        have hsn : Si.degs m (es.take (k + 1)) = Si.bump (Si.bump l p.1) p.2 := by rw [Si.take_snoc hp, Si.degs_snoc, ← HL0.out]
        have hok := HVAL.out.each k p hp
        unfold Si.ok at hok
        obtain ⟨pu, pv⟩ := p
        dsimp only at c0 c1 hsn hok
        obtain ⟨u, rfl⟩ : ∃ u : Nat, pu = (u : Int) := ⟨pu.toNat, by omega⟩
        obtain ⟨v, rfl⟩ : ∃ v : Nat, pv = (v : Int) := ⟨pv.toNat, by omega⟩
        obtain ⟨x, hx⟩ : ∃ x, l[u]? = some x := ⟨_, List.getElem?_eq_getElem (by omega)⟩
        obtain ⟨y, hy⟩ : ∃ y, l[v]? = some y := ⟨_, List.getElem?_eq_getElem (by omega)⟩
        have hxb := hup u x hx
        have hyb := hup v y hy
        have hne : u ≠ v := by omega
        have hsn2 : Si.degs m (es.take (k + 1)) = (l.set u (x + 1)).set v (y + 1) := by
          rw [hsn, Si.bump_at hx, Si.bump_at (x := y) (by rw [List.getElem?_set, if_neg hne]; exact hy)]
        have HSN := Nu.hid hsn2
        have hcx := hik.cell hx
        have hcy := hik.cell hy
        have hfr := hik.free
        have hi1 := hik.set u (x + 1)
        have hcy1 := hi1.cell (i := v) (x := y) (by rw [List.getElem?_set, if_neg hne]; exact hy)
        have hfr1 := hi1.free
        have HI2 := Nu.hid (hi1.set v (y + 1))
        have c1' : (wr.setCell ⟨w'.heap.size, u, none⟩ (.int .i64 (x + 1))).cell? ⟨b, o + k * 2 + 1, none⟩ = some (.int .i64 v) := (cell_other (by omega) _).trans c1
        have k1' : (wr.setCell ⟨w'.heap.size, u, none⟩ (.int .i64 (x + 1))).cell? ⟨w.heap.size, 1, none⟩ = some (.slice (some ⟨b, o, none⟩) es.length cap) := (cell_other (by omega) _).trans k1
        have HGR2 : Hid (((wr.setCell ⟨w'.heap.size, u, none⟩ (.int .i64 (x + 1))).setCell ⟨w'.heap.size, v, none⟩ (.int .i64 (y + 1))).heap[w.heap.size]? = some (.cells #[.int .i64 m, .slice (some ⟨b, o, none⟩) es.length cap] 24 (0, 0))) := by
          show _ = _
          rw [heap_setCell_other _ ⟨w'.heap.size, v, none⟩ w.heap.size _ (by simp; omega), heap_setCell_other _ ⟨w'.heap.size, u, none⟩ w.heap.size _ (by simp; omega)]
          exact HGR.out
        have u0 : (0 : Int) ≤ (u : Int) := by omega
        have v0 : (0 : Int) ≤ (v : Int) := by omega
        have um : (u : Int) < (m : Int) := by omega
        have vm : (v : Int) < (m : Int) := by omega
        clear hsn hsn2 hup hok hx hy hb hik hi1 hp
        go_wp2
        go_roundw
        case rel => exact ⟨k + 1, _, by omega, by go_num, HSN.out.symm, HI2.out, HGR2.out, (HB3.out.setCell (by simp; omega) _).setCell (by simp; omega) _⟩
        case measure => simp [intOf]; omega
      · have hd : ¬ ((k : Int) < (es.length : Int)) := by omega
        have hle : l = Si.degs m es := by rw [HL0.out, List.take_of_length_le (by omega)]
        have HLE := Nu.hid hle
        clear hle hb hik hup
        go_wp2
        go_ret2
        refine ⟨.inl ⟨HV.out, w'.heap.size, m, rfl, rfl, hwg, ?_⟩, HB3.out⟩
        rw [← HLE.out]
        exact HIKR.out

end Go.Proofs.YtalfpbalekbinaaGreat

/-
  Edges and graphs that came in.
-/
namespace Go.Proofs.YtalfpbalekbinaaGreat
open Go.ChangeShapes Go.WideShapes Go.ChangeAt Go.RowKit

theorem bytesEdge : Tryz.prog.bytesOf 46 = 16 := by kernel_rfl
theorem cellsGraph : Tryz.prog.cellsOf 24 = 2 := by kernel_rfl
theorem cellsEdges : Tryz.prog.cellsOf 22 = 1 := by kernel_rfl

section
variable {H : Type} {enc : TypeId × Value → H} {W : World} {base : Nat} {sp : Nat → Bool} {held : Bool}

/-- Two numbers, read. -/
def TwoInts (cs : List Value) : Prop := ∃ a b : Int, cs = [.int .i64 a, .int .i64 b] ∧ In64 (a, b)

theorem two_of_ints {fuel : Nat} {cs : List Value} {x y : DataW H × List MemPlace} (hl : cs.length = 2) (h0 : DataW.trod enc Tryz.prog W base sp held fuel 3 ((cs.drop 0).take 1) = some x) (h1 : DataW.trod enc Tryz.prog W base sp held fuel 3 ((cs.drop 1).take 1) = some y) : TwoInts cs := by
  match cs, hl with
  | [u, v], _ =>
    obtain ⟨a, e0, _, w0⟩ := DataW.trod_int Tryz.underlying3 h0
    obtain ⟨b, e1, _, w1⟩ := DataW.trod_int Tryz.underlying3 h1
    simp at e0 e1
    subst e0
    subst e1
    exact ⟨a, b, rfl, bounds_i64 w0, bounds_i64 w1⟩

theorem two_arr {e t : TypeId} (he : Tryz.prog.underlying e = some (.array 2 t)) (ce : Tryz.prog.cellsOf e = 2) (ht : t = 3) {fuel : Nat} {cs : List Value} {x : DataW H × List MemPlace} (h : DataW.trod enc Tryz.prog W base sp held fuel e cs = some x) : TwoInts cs := by
  subst ht
  obtain ⟨xs, m, _, _, hl, hx, hf⟩ := DataW.trod_array he h
  rw [ce] at hl
  match xs, hx with
  | [y0, y1], _ =>
    have g0 := hf 0 (by omega)
    have g1 := hf 1 (by omega)
    simp only [cellsIntK] at g0 g1
    exact two_of_ints hl g0 g1

theorem two_struct {e : TypeId} {f0 f1 : Field} (he : Tryz.prog.underlying e = some (.struct #[f0, f1])) (ce : Tryz.prog.cellsOf e = 2) (o0 : f0.offset = 0) (o1 : f1.offset = 1) (t0 : f0.type = 3) (t1 : f1.type = 3)
    {fuel : Nat} {cs : List Value} {x : DataW H × List MemPlace} (h : DataW.trod enc Tryz.prog W base sp held fuel e cs = some x) : TwoInts cs := by
  obtain ⟨xs, m, _, _, hl, hx, hf⟩ := DataW.trod_struct he h
  rw [ce] at hl
  match xs, hx with
  | [y0, y1], _ =>
    have g0 := hf 0 f0 rfl
    have g1 := hf 1 f1 rfl
    simp only [o0, o1, t0, t1, cellsIntK] at g0 g1
    exact two_of_ints hl g0 g1

theorem two_edge {fuel : Nat} {cs : List Value} {x : DataW H × List MemPlace} (h : DataW.trod enc Tryz.prog W base sp held fuel 46 cs = some x) : TwoInts cs := two_struct Tryz.underlying46 cellsEdge rfl rfl rfl rfl h

/-- A number and a list, read. -/
theorem num_list {e : TypeId} {f0 f1 : Field} (he : Tryz.prog.underlying e = some (.struct #[f0, f1])) (o0 : f0.offset = 0) (o1 : f1.offset = 1) (t0 : f0.type = 3) (t1 : f1.type = 22) (c1 : Tryz.prog.cellsOf 22 = 1)
    {fuel : Nat} {u v : Value} {x : DataW H × List MemPlace} (h : DataW.trod enc Tryz.prog W base sp held fuel e [u, v] = some x) :
    ∃ (m : Nat) (y0 y1 : DataW H × List MemPlace), DataW.trod enc Tryz.prog W base sp held m 3 [u] = some y0 ∧ DataW.trod enc Tryz.prog W base sp held m 22 [v] = some y1 ∧ x.1 = .agg [y0.1, y1.1] := by
  obtain ⟨xs, m, _, hxx, hl, hx, hf⟩ := DataW.trod_struct he h
  match xs, hx with
  | [y0, y1], _ =>
    have g0 := hf 0 f0 rfl
    have g1 := hf 1 f1 rfl
    simp only [o0, o1, t0, t1, cellsIntK, c1] at g0 g1
    exact ⟨m, y0, y1, by simpa using g0, by simpa using g1, by rw [hxx]; rfl⟩

/-- What is known of a list of pairs that came in. -/
structure PairsIn (w : World) (ao : Option Addr) (len cap : Nat) (qs : List (Int × Int)) : Prop where
  hlen : qs.length = len
  hat : EdgesAt w ao qs
  hnil : ao = none → qs = [] ∧ cap = 0
  hwf : ∀ (j : Nat) (p : Int × Int), qs[j]? = some p → In64 p
  hfit : len ≤ cap

theorem pairs_in {t e : TypeId} {fuel : Nat} {a : Option Addr} {len cap : Nat} {x : DataW H × List MemPlace} (ht : Tryz.prog.underlying t = some (.slice e)) (ce : Tryz.prog.cellsOf e = 2)
    (hel : ∀ (n : Nat) (cs : List Value) (y : DataW H × List MemPlace), DataW.trod enc Tryz.prog W base (fun _ => true) held n e cs = some y → TwoInts cs) (h : DataW.trod enc Tryz.prog W base (fun _ => true) held fuel t [.slice a len cap] = some x) :
    ∃ qs, PairsIn W a len cap qs ∧ ((x.1 = .nil ∧ qs = []) ∨ ∃ es rest, x.1 = .slice es rest ∧ len ≤ es.length) := by
  rcases Deep.open_slice ht h with ⟨hcs, hx⟩ | ⟨ad, l, c, m, n, D, Pl, hcs, _, hl, hm, hmm, rfl, hcell⟩
  · simp at hcs
    obtain ⟨rfl, rfl, rfl⟩ := hcs
    subst hx
    exact ⟨[], ⟨rfl, EdgesAt.nil _ _, fun _ => ⟨rfl, rfl⟩, fun j p hj => by simp at hj, Nat.le_refl _⟩, .inl ⟨rfl, rfl⟩⟩
  · simp at hcs
    obtain ⟨rfl, rfl, rfl⟩ := hcs
    have hmc : m = cap := by simpa using hmm
    have each : ∀ i, i < m → ∃ q : Int × Int, W.cell? (ad.add (i * 2)) = some (.int .i64 q.1) ∧ W.cell? (ad.add (i * 2 + 1)) = some (.int .i64 q.2) ∧ In64 q := fun i hi => by
      obtain ⟨cs', h1, h2⟩ := hcell i hi
      rw [ce] at h1
      obtain ⟨_, hlen, hc⟩ := World.cells?_some h1
      obtain ⟨u, v, rfl, hw⟩ := hel n cs' _ h2
      have e0 := hc 0 (by omega)
      have e1 := hc 1 (by omega)
      rw [Deep.add_add] at e0 e1
      exact ⟨(u, v), by simpa using e0, by simpa using e1, hw⟩
    obtain ⟨q, hq⟩ := Deep.choose_lt each
    refine ⟨(List.range len).map q, ⟨by simp, fun j p hj => ?_, fun h => (by cases h), fun j p hj => ?_, hl⟩, .inr ⟨_, _, rfl, by simp⟩⟩
    · have hi : j < len := by
        have := (List.getElem?_eq_some_iff.1 hj).1
        simpa using this
      simp [hi] at hj
      subst hj
      obtain ⟨c0, c1, _⟩ := hq j (by omega)
      obtain ⟨b, o, s⟩ := ad
      have hsp : s = none := by
        obtain ⟨c00, _⟩ := hq 0 (by omega)
        simpa [Addr.add] using World.cell?_spot c00
      subst hsp
      have ea : ∀ k, ((⟨b, o, none⟩ : Addr).add k) = ⟨b, o + k, none⟩ := fun k => by
        by_cases h0 : k = 0 <;> simp [Addr.add, h0]
      rw [ea] at c0 c1
      exact ⟨b, o, rfl, c0, by rw [← Nat.add_assoc] at c1; exact c1⟩
    · have hi : j < len := by
        have := (List.getElem?_eq_some_iff.1 hj).1
        simpa using this
      simp [hi] at hj
      subst hj
      exact (hq j (by omega)).2.2

end

set_option maxRecDepth 100000 in
/-- An edge that came in. -/
theorem edge_of_trod {H : Type} {enc : TypeId × Value → H} {W : World} {base : Nat} {v : Value} {d : DataW H} {p : List MemPlace} (hval : Value.okWide Tryz.prog W .any base 46 v)
    (h : DataW.Trod enc Tryz.prog W 0 (fun _ => true) true 46 v d p) : ∃ q : Int × Int, v = edgeVal q ∧ In64 q := by
  obtain ⟨cs, rfl, hcs⟩ := okWide_struct Tryz.underlying46 hval
  rw [cellsEdge] at hcs
  obtain ⟨fuel, hf⟩ := h
  obtain ⟨cl⟩ := cs
  match cl, hcs with
  | [u, v], _ =>
    obtain ⟨a, b, e, hw⟩ := two_edge hf
    simp [Value.cells] at e
    obtain ⟨rfl, rfl⟩ := e
    exact ⟨(a, b), rfl, hw⟩

set_option maxRecDepth 100000 in
/-- A graph that came in. -/
theorem graph_of_trod {H : Type} {enc : TypeId × Value → H} {W : World} {base : Nat} {v : Value} {d : DataW H} {p : List MemPlace} {ts : List TypeId} {ds : List (DataW H)} {j : Nat} (hval : Value.okWide Tryz.prog W .any base 24 v)
    (h : DataW.Trod enc Tryz.prog W 0 (fun _ => true) true 24 v d p) (hsz : (DataW.weightsEach Tryz.prog ts ds).all (· ≤ reachBytes) = true) (hts : ts[j]? = some 24) (hds : ds[j]? = some d) :
    ∃ (n : Int) (a : Option Addr) (cap : Nat) (qs : List (Int × Int)), v = .agg #[.int .i64 n, .slice a qs.length cap] ∧ (-9223372036854775808 ≤ n ∧ n ≤ 9223372036854775807) ∧ PairsIn W a qs.length cap qs ∧ qs.length * 16 ≤ 140737488351232 := by
  obtain ⟨cs, rfl, hcs⟩ := okWide_struct Tryz.underlying24 hval
  rw [cellsGraph] at hcs
  obtain ⟨fuel, hf⟩ := h
  obtain ⟨cl⟩ := cs
  match cl, hcs with
  | [u, v], _ =>
    obtain ⟨m, y0, y1, g0, g1, hxx⟩ := num_list Tryz.underlying24 rfl rfl rfl rfl cellsEdges hf
    obtain ⟨n, e0, hy0, w0⟩ := DataW.trod_int Tryz.underlying3 g0
    simp at e0
    subst e0
    have hsl : ∃ a len cap, v = .slice a len cap := by
      rcases Deep.open_slice Tryz.underlying22 g1 with ⟨hc, _⟩ | ⟨ad, l, c, _, _, _, _, hc, _⟩
      · simp at hc; exact ⟨_, _, _, hc⟩
      · simp at hc; exact ⟨_, _, _, hc⟩
    obtain ⟨a, len, cap, rfl⟩ := hsl
    obtain ⟨qs, hq, hd⟩ := pairs_in Tryz.underlying22 cellsEdge (fun n cs y hy => two_edge hy) g1
    have hql := hq.hlen
    subst hql
    refine ⟨n, a, cap, qs, rfl, bounds_i64 w0, hq, ?_⟩
    rcases hd with ⟨_, rfl⟩ | ⟨es, rest, hd, hle⟩
    · simp
    · have hde : d = .agg [y0.1, .slice es rest] := by
        rw [hd] at hxx
        exact hxx
      subst hde
      have hw := List.all_eq_true.1 hsz _ (DataW.weights_mem_each hts hds ((es.length + rest.length) * Tryz.prog.bytesOf 46) (by simp [DataW.weights, DataW.weightsEach, Tryz.underlying24, Tryz.underlying22]))
      rw [bytesEdge] at hw
      have hw2 : (es.length + rest.length) * 16 ≤ reachBytes := of_decide_eq_true hw
      simp only [reachBytes] at hw2
      omega

end Go.Proofs.YtalfpbalekbinaaGreat
