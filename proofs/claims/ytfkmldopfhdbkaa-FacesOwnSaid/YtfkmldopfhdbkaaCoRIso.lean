/-
  The document's Isolated.
-/
import Derived.Test.YtfkmldopfhdbkaaMg19
import Derived.Test.YtfkmldopfhdbkaaCoBools
import Derived.Test.YtfkmldopfhdbkaaSiRValid
namespace Go.Proofs.Ytfkmldopfhdbkaa
open Go.RowKit Go.Sort

theorem BoolsIn.congr {w : World} {g n : Nat} {f f' : Nat → Bool} (h : BoolsIn w g n f) (e : ∀ i, i < n → f i = f' i) : BoolsIn w g n f' := by
  unfold BoolsIn at h ⊢
  rw [h]
  congr 2
  unfold Co.bools
  congr 1
  exact List.map_congr_left fun i hi => by rw [e i (List.mem_range.1 hi)]

set_option maxRecDepth 100000 in
set_option maxHeartbeats 8000000 in
theorem risolated_any (n : Int) (ao : Option Addr) (cap : Nat) (es : List (Int × Int)) (w : World) (he : EdgesAt w ao es) (hl : es.length ≤ 4611686018427387904) :
    Calls Try.prog 37 #[graphVal n ao es.length cap] w (IsoPost n es w) := by
  obtain ⟨i0, hi, hz0, hz1, hz2⟩ := info_parts Try.infoBool
  have HE := Nu.hid he
  have hva := fun W (hb : Below w.heap.size w W) => rvalid_any n ao cap es W (he.later hb) hl
  unfold graphVal at hva ⊢
  have HVA := Nu.hid hva
  clear he hva
  have hbw0 : Below w.heap.size w (w.alloc (.cells #[.int .i64 n, .slice ao es.length cap] 24)) := (Below.refl _ _).alloc (Nat.le_refl _) _
  have HBW0 := Nu.hid hbw0
  clear hbw0
  cases hv : Si.valid n es with
  | false =>
    rw [hv] at HVA
    have HV := Nu.hid hv
    clear hv
    go_enter Try.func37, Try.ntmps37
    go_wp2_with (go_at_call 52; refine (HVA.out _ HBW0.out).mono ?_; rintro e w' ⟨rfl, hb⟩; refine Hid.out ?_)
    refine Nu.hid ?_
    have HB := Nu.hid (HBW0.out.trans (hb.mono HBW0.out.size))
    clear hb
    go_wp2
    go_ret2
    exact ⟨.inr ⟨HV.out, rfl⟩, HB.out⟩
  | true =>
    rw [hv] at HVA
    have hval := Si.valid_iff.1 hv
    have hfew := hval.few
    have hlo := hval.lo
    have hhi := hval.hi
    obtain ⟨m, rfl⟩ : ∃ m : Nat, n = (m : Int) := ⟨n.toNat, by omega⟩
    have HVAL := Nu.hid hval
    have hmk : ∀ W, (Instr.makeSlice 64 (.int .i64 (m : Int)) (.int .i64 (m : Int))).run Try.prog W = .ok (.slice (some ⟨W.heap.size, 0, none⟩) m m) (W.alloc (.cells (madeCells #[.bool false] m) 4)) := fun W => by
      have := run_make (P := Try.prog) W 64 4 i0 (.bool false) Try.underlying64 hi hz0 .i64 .i64 (m : Int) (m : Int) (by omega) (Int.le_refl _) (by rw [hz2]; omega) (by omega)
      rw [this, hz1]
      simp [Value.cells]
    clear hval hv
    go_enter Try.func37, Try.ntmps37
    go_wp2_with (go_at_call 52; refine (HVA.out _ HBW0.out).mono ?_; rintro e w1 ⟨rfl, hb⟩; refine Hid.out ?_)
    refine Nu.hid ?_
    have hG : w1.heap[w.heap.size]? = some (.cells #[.int .i64 m, .slice ao es.length cap] 24 (0, 0)) := (hb.block _ (by simp)).trans (heap_alloc_new w _)
    have HB1 := Nu.hid (HBW0.out.trans (hb.mono HBW0.out.size))
    have HG := Nu.hid hG
    have hsG := lt_of_block hG
    obtain ⟨g0, g1, -⟩ := pair_cells hG
    have HI0 : Hid (BoolsIn (w1.alloc (.cells (madeCells #[.bool false] m) 4)) w1.heap.size m (fun v => Co.met (es.take 0) v)) := made_bools rfl m
    have HG0 := Nu.hid ((Below.heap_alloc w1 (.cells (madeCells #[.bool false] m) 4) w.heap.size hsG).trans hG)
    have HB0 := Nu.hid (HB1.out.alloc HB1.out.size (.cells (madeCells #[.bool false] m) 4))
    clear hb hG HVA
    go_wp2
    clear hmk g0 g1
    go_loopw [5] (fun cv wr => ∃ i : Nat, i ≤ es.length ∧ cv = .int .i64 (i : Int) ∧ BoolsIn wr w1.heap.size m (fun v => Co.met (es.take i) v) ∧ wr.heap[w.heap.size]? = some (.cells #[.int .i64 m, .slice ao es.length cap] 24 (0, 0)) ∧ Below w.heap.size w wr) (fun cv _ => es.length - (intOf cv).toNat)
    case atStart => exact ⟨0, Nat.zero_le _, rfl, HI0.out, HG0.out, HB0.out⟩
    case round =>
      obtain ⟨i, hi', rfl, hI, hg, hb⟩ := hrel
      have HI := Nu.hid hI
      have HGr := Nu.hid hg
      have HB := Nu.hid hb
      have hsb := hb.size
      have hsI := hI.lt
      obtain ⟨x0, x1, -⟩ := pair_cells hg
      have hs1 := HB1.out.size
      by_cases hlt : i < es.length
      · have hlti : (i : Int) < (es.length : Int) := by omega
        have hi0' : (0 : Int) ≤ (i : Int) := by omega
        obtain ⟨q, hq⟩ : ∃ q, es[i]? = some q := ⟨_, List.getElem?_eq_getElem hlt⟩
        have hok := HVAL.out.each i q hq
        unfold Si.ok at hok
        obtain ⟨b, o, rfl, c0, c1⟩ := (HE.out.later hb) i q hq
        have hbw : b < w.heap.size := by
          obtain ⟨b', o', e', h0, _⟩ := HE.out i q hq
          cases e'
          exact block_lt_of_cell h0
        obtain ⟨qu, qv⟩ := q
        dsimp only at c0 c1 hok
        obtain ⟨u, rfl⟩ : ∃ u : Nat, qu = (u : Int) := ⟨qu.toNat, by omega⟩
        obtain ⟨v, rfl⟩ : ∃ v : Nat, qv = (v : Int) := ⟨qv.toNat, by omega⟩
        have hum : u < m := by omega
        have hvm : v < m := by omega
        have u0 : (0 : Int) ≤ (u : Int) := by omega
        have u1 : (u : Int) < (m : Int) := by omega
        have v0 : (0 : Int) ≤ (v : Int) := by omega
        have v1 : (v : Int) < (m : Int) := by omega
        have cu := hI.cell hum
        have cf := hI.free
        have n1 := hI.set u true
        have cv := n1.cell hvm
        have cvf := n1.free
        have n2 := n1.set v true
        have cw := hI.cell hvm
        have hgw : w.heap.size ≠ w1.heap.size := by omega
        have hbn : b ≠ w1.heap.size := by omega
        have k1 : (wr.setCell ⟨w1.heap.size, u, none⟩ (.bool true)).cell? ⟨w.heap.size, 1, none⟩ = some (.slice (some ⟨b, o, none⟩) es.length cap) := by
          rw [← x1]
          exact World.cell?_of_block (w := wr) (a := ⟨w.heap.size, 1, none⟩) (heap_setCell_other wr ⟨w1.heap.size, u, none⟩ w.heap.size _ hgw)
        have k2 : (wr.setCell ⟨w1.heap.size, u, none⟩ (.bool true)).cell? ⟨b, o + i * 2 + 1, none⟩ = some (.int .i64 (v : Int)) := by
          rw [← c1]
          exact World.cell?_of_block (w := wr) (a := ⟨b, o + i * 2 + 1, none⟩) (heap_setCell_other wr ⟨w1.heap.size, u, none⟩ b _ hbn)
        have HN2 : Hid (BoolsIn ((wr.setCell ⟨w1.heap.size, u, none⟩ (.bool true)).setCell ⟨w1.heap.size, v, none⟩ (.bool true)) w1.heap.size m (fun x => Co.met (es.take (i + 1)) x)) := by
          refine n2.congr (fun j hj => ?_)
          rw [Si.take_snoc hq, Co.met_snoc]
          by_cases ev : j = v
          · subst ev
            rw [Co.updB_same]
            simp
          · rw [Co.updB_other _ ev]
            by_cases eu : j = u
            · subst eu
              rw [Co.updB_same]
              simp
            · rw [Co.updB_other _ eu]
              have e1 : ((u : Int) == (j : Int)) = false := by simp; omega
              have e2 : ((v : Int) == (j : Int)) = false := by simp; omega
              rw [e1, e2]
              simp
        have HG2 : Hid (((wr.setCell ⟨w1.heap.size, u, none⟩ (.bool true)).setCell ⟨w1.heap.size, v, none⟩ (.bool true)).heap[w.heap.size]? = some (.cells #[.int .i64 m, .slice (some ⟨b, o, none⟩) es.length cap] 24 (0, 0))) := by
          show _ = _
          rw [heap_setCell_other _ ⟨w1.heap.size, v, none⟩ w.heap.size _ hgw, heap_setCell_other _ ⟨w1.heap.size, u, none⟩ w.heap.size _ hgw]
          exact hg
        have HB2 := Nu.hid ((hb.setCell (p := ⟨w1.heap.size, u, none⟩) hs1 (.bool true)).setCell (p := ⟨w1.heap.size, v, none⟩) hs1 (.bool true))
        clear hI hg hb hq hok n1 n2
        go_wp2
        go_roundw
        case rel => exact ⟨i + 1, by omega, by go_num, HN2.out, HG2.out, HB2.out⟩
        case measure => simp [intOf]; omega
      · have hd : ¬ ((i : Int) < (es.length : Int)) := by omega
        obtain ⟨w0, rfl⟩ : ∃ w0, w0 = wr := ⟨wr, rfl⟩
        rw [List.take_of_length_le (by omega)] at HI
        clear hI hg hb
        go_wp2
        go_loopw [6, 7] (fun s c wr => ∃ k : Nat, k ≤ m ∧ c = .int .i64 (k : Int) ∧ s = .int .i64 (Co.cntTo (fun v => !Co.met es v) k : Int) ∧ wr = w0) (fun _ c _ => m - (intOf c).toNat)
        case atStart => exact ⟨0, Nat.zero_le _, rfl, rfl, rfl⟩
        case round =>
          obtain ⟨k, hk, rfl, rfl, hwr⟩ := hrel
          obtain rfl := hwr.symm
          clear hwr
          have hcl := Co.cntTo_le (fun v => !Co.met es v) k
          by_cases hkn : k < m
          · have hk0 : (0 : Int) ≤ (k : Int) := by omega
            have hk1 : (k : Int) < (m : Int) := by omega
            have c0 := HI.out.cell hkn
            have hsucc : Co.cntTo (fun v => !Co.met es v) (k + 1) = Co.cntTo (fun v => !Co.met es v) k + (if !Co.met es k then 1 else 0) := rfl
            obtain ⟨z, hz⟩ : ∃ z, Co.cntTo (fun v => !Co.met es v) k = z := ⟨_, rfl⟩
            rw [hz] at hcl hsucc ⊢
            clear hz
            cases hmt : Co.met es k with
            | false =>
              rw [hmt] at hsucc c0
              have HSU := Nu.hid hsucc
              clear hsucc hmt
              go_wp2
              go_roundw
              case rel => exact ⟨k + 1, by omega, by go_num, by rw [HSU.out]; go_num, by first | rfl | trivial⟩
              case measure => simp [intOf]; omega
            | true =>
              rw [hmt] at hsucc c0
              have HSU := Nu.hid hsucc
              clear hsucc hmt
              go_wp2
              go_roundw
              case rel => exact ⟨k + 1, by omega, by go_num, by rw [HSU.out]; go_num, by first | rfl | trivial⟩
              case measure => simp [intOf]; omega
          · have hd2 : ¬ ((k : Int) < (m : Int)) := by omega
            obtain rfl : k = m := by omega
            go_wp2
            go_ret2
            exact ⟨.inl ⟨k, rfl, HVAL.out, rfl⟩, HB.out⟩

end Go.Proofs.Ytfkmldopfhdbkaa
