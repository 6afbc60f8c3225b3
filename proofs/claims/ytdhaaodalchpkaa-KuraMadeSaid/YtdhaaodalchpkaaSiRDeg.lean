/-
  How many edges each vertex has, as the document counts them.
-/
import Derived.Test.YtdhaaodalchpkaaMgF
import Derived.Test.YtdhaaodalchpkaaMgD
namespace Go.Proofs.Ytdhaaodalchpkaa
open Go.RowKit Go.Sort

set_option maxRecDepth 100000 in
set_option maxHeartbeats 8000000 in
theorem rdegrees_any (n : Int) (ao : Option Addr) (cap : Nat) (es : List (Int × Int)) (w : World) (he : EdgesAt w ao es) (hl : es.length ≤ 4611686018427387904) :
    Calls Try.prog 16 #[graphVal n ao es.length cap] w (DegPost n es w) := by
  obtain ⟨i0, hi, hz0, hz1, hz2⟩ := info_parts Try.infoNum
  have HE := Nu.hid he
  have hva := fun W (hb : Below w.heap.size w W) => rvalid_any n ao cap es W (he.later hb) hl
  unfold graphVal at hva ⊢
  have HVA := Nu.hid hva
  clear he hva
  have hbw0 : Below w.heap.size w (w.alloc (.cells #[.int .i64 n, .slice ao es.length cap] 24)) := (Below.refl _ _).alloc (Nat.le_refl _) _
  have HBW0 := Nu.hid hbw0
  clear hbw0
  cases hv : Si.valid n es with
  | false =>
    rw [hv] at HVA
    have HV := Nu.hid hv
    clear hv
    go_enter Try.func16, Try.ntmps16
    go_wp2_with (go_at_call 18; refine (HVA.out _ HBW0.out).mono ?_; rintro e w' ⟨rfl, hb⟩; refine Hid.out ?_)
    refine Nu.hid ?_
    have HB := Nu.hid (HBW0.out.trans (hb.mono HBW0.out.size))
    clear hb
    go_wp2
    go_ret2
    exact ⟨.inr ⟨HV.out, rfl⟩, HB.out⟩
  | true =>
    rw [hv] at HVA
    have hval := Si.valid_iff.1 hv
    have hfew := hval.few
    have hlo := hval.lo
    have hhi := hval.hi
    obtain ⟨m, rfl⟩ : ∃ m : Nat, n = (m : Int) := ⟨n.toNat, by omega⟩
    have HVAL := Nu.hid hval
    have HV := Nu.hid hv
    clear hval hv
    go_enter Try.func16, Try.ntmps16
    go_wp2_with (go_at_call 18; refine (HVA.out _ HBW0.out).mono ?_; rintro e w' ⟨rfl, hb⟩; refine Hid.out ?_)
    refine Nu.hid ?_
    have hG : w'.heap[w.heap.size]? = some (.cells #[.int .i64 m, .slice ao es.length cap] 24 (0, 0)) := (hb.block _ (by simp)).trans (heap_alloc_new w _)
    have HB := Nu.hid (HBW0.out.trans (hb.mono HBW0.out.size))
    have hsG := lt_of_block hG
    obtain ⟨g0, g1, -⟩ := pair_cells hG
    have HG := Nu.hid hG
    clear hb hG
    go_wp2_with (at_make; refine wpList_make_full _ rfl _ _ 36 rfl w'.heap.size 3 i0 (.int .i64 0) 1 Try.underlying36 hi hz0 hz1 _ _ _ _ m rfl rfl rfl rfl (by rw [hz2]; omega) (by unfold maxLen; omega) (Nat.le_refl _) ?_; refine Hid.out ?_)
    refine Nu.hid ?_
    intro w2 hrow hg2
    rw [made_zeros] at hrow
    have hik := ints_of_row hrow
    have hb2 : Below w'.heap.size w' w2 := (Below.refl _ _).grown hg2 (Nat.le_refl _) (fun j hj => by cases hj)
    have HB2 := Nu.hid (HB.out.trans (hb2.mono HB.out.size))
    have HG2 := Nu.hid ((hb2.block _ hsG).trans HG.out)
    have hs2 : w'.heap.size < w2.heap.size := hik.lt
    have HIK : Hid (IntsBlk w2 w'.heap.size (Si.degs m [])) := by
      show IntsBlk _ _ _
      have : Si.degs m [] = List.replicate m 0 := by simp [Si.degs]
      rw [this]
      exact hik
    have hwg : w.heap.size ≤ w'.heap.size := by omega
    have hsG2 : w.heap.size < w2.heap.size := by omega
    clear hrow hg2 hb2 hik g0 g1
    go_wp2
    go_loopw [6] (fun c wr => ∃ (k : Nat) (l : List Int), k ≤ es.length ∧ c = .int .i64 k ∧ l = Si.degs m (es.take k) ∧ IntsBlk wr w'.heap.size l ∧ wr.heap[w.heap.size]? = some (.cells #[.int .i64 m, .slice ao es.length cap] 24 (0, 0)) ∧ Below w.heap.size w wr) (fun c _ => es.length - (intOf c).toNat)
    case atStart => exact ⟨0, _, Nat.zero_le _, rfl, by simp, HIK.out, HG2.out, HB2.out⟩
    case round =>
      obtain ⟨k, l, hk, rfl, hl0, hik, hgr, hb⟩ := hrel
      obtain ⟨-, k1, -⟩ := pair_cells hgr
      have HGR := Nu.hid hgr
      have hsgr := lt_of_block hgr
      clear hgr
      have hsw := hik.lt
      have hs0 := hb.size
      have hll : l.length = m := by rw [hl0, Si.degs_length]; simp
      have hup : Si.Upto (2 * k) l := by
        rw [hl0]
        have := Si.degs_upto m (es.take k)
        have e : (es.take k).length = k := by simp; omega
        rw [e] at this
        exact this
      have HIKR := Nu.hid hik
      have HB3 := Nu.hid hb
      have HL0 := Nu.hid hl0
      clear hl0
      by_cases hlt : k < es.length
      · have hlti : (k : Int) < (es.length : Int) := by omega
        have hk0 : (0 : Int) ≤ (k : Int) := by omega
        obtain ⟨p, hp⟩ : ∃ p, es[k]? = some p := ⟨_, List.getElem?_eq_getElem hlt⟩
        obtain ⟨b, o, rfl, q0, -⟩ := HE.out k p hp
        have hb0 : b < w.heap.size := block_lt_of_cell q0
        obtain ⟨b', o', e', c0, c1⟩ := (HE.out.later hb) k p hp
        cases e'
        have hbl : b < wr.heap.size := block_lt_of_cell c0
        clear q0
        have hsn : Si.degs m (es.take (k + 1)) = Si.bump (Si.bump l p.1) p.2 := by rw [Si.take_snoc hp, Si.degs_snoc, ← HL0.out]
        have hok := HVAL.out.each k p hp
        unfold Si.ok at hok
        obtain ⟨pu, pv⟩ := p
        dsimp only at c0 c1 hsn hok
        obtain ⟨u, rfl⟩ : ∃ u : Nat, pu = (u : Int) := ⟨pu.toNat, by omega⟩
        obtain ⟨v, rfl⟩ : ∃ v : Nat, pv = (v : Int) := ⟨pv.toNat, by omega⟩
        obtain ⟨x, hx⟩ : ∃ x, l[u]? = some x := ⟨_, List.getElem?_eq_getElem (by omega)⟩
        obtain ⟨y, hy⟩ : ∃ y, l[v]? = some y := ⟨_, List.getElem?_eq_getElem (by omega)⟩
        have hxb := hup u x hx
        have hyb := hup v y hy
        have hne : u ≠ v := by omega
        have hsn2 : Si.degs m (es.take (k + 1)) = (l.set u (x + 1)).set v (y + 1) := by
          rw [hsn, Si.bump_at hx, Si.bump_at (x := y) (by rw [List.getElem?_set, if_neg hne]; exact hy)]
        have HSN := Nu.hid hsn2
        have hcx := hik.cell hx
        have hcy := hik.cell hy
        have hfr := hik.free
        have hi1 := hik.set u (x + 1)
        have hcy1 := hi1.cell (i := v) (x := y) (by rw [List.getElem?_set, if_neg hne]; exact hy)
        have hfr1 := hi1.free
        have HI2 := Nu.hid (hi1.set v (y + 1))
        have c1' : (wr.setCell ⟨w'.heap.size, u, none⟩ (.int .i64 (x + 1))).cell? ⟨b, o + k * 2 + 1, none⟩ = some (.int .i64 v) := (cell_other (by omega) _).trans c1
        have k1' : (wr.setCell ⟨w'.heap.size, u, none⟩ (.int .i64 (x + 1))).cell? ⟨w.heap.size, 1, none⟩ = some (.slice (some ⟨b, o, none⟩) es.length cap) := (cell_other (by omega) _).trans k1
        have HGR2 : Hid (((wr.setCell ⟨w'.heap.size, u, none⟩ (.int .i64 (x + 1))).setCell ⟨w'.heap.size, v, none⟩ (.int .i64 (y + 1))).heap[w.heap.size]? = some (.cells #[.int .i64 m, .slice (some ⟨b, o, none⟩) es.length cap] 24 (0, 0))) := by
          show _ = _
          rw [heap_setCell_other _ ⟨w'.heap.size, v, none⟩ w.heap.size _ (by simp; omega), heap_setCell_other _ ⟨w'.heap.size, u, none⟩ w.heap.size _ (by simp; omega)]
          exact HGR.out
        have u0 : (0 : Int) ≤ (u : Int) := by omega
        have v0 : (0 : Int) ≤ (v : Int) := by omega
        have um : (u : Int) < (m : Int) := by omega
        have vm : (v : Int) < (m : Int) := by omega
        clear hsn hsn2 hup hok hx hy hb hik hi1 hp
        go_wp2
        go_roundw
        case rel => exact ⟨k + 1, _, by omega, by go_num, HSN.out.symm, HI2.out, HGR2.out, (HB3.out.setCell (by simp; omega) _).setCell (by simp; omega) _⟩
        case measure => simp [intOf]; omega
      · have hd : ¬ ((k : Int) < (es.length : Int)) := by omega
        have hle : l = Si.degs m es := by rw [HL0.out, List.take_of_length_le (by omega)]
        have HLE := Nu.hid hle
        clear hle hb hik hup
        go_wp2
        go_ret2
        refine ⟨.inl ⟨HV.out, w'.heap.size, m, rfl, rfl, hwg, ?_⟩, HB3.out⟩
        rw [← HLE.out]
        exact HIKR.out

end Go.Proofs.Ytdhaaodalchpkaa
