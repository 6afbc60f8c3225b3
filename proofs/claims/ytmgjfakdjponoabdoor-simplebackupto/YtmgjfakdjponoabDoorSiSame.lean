/-
  Whether two graphs are the same, as the program and as the document ask it.
-/
import Derived.Test.YtmgjfakdjponoabDoorSiREq
import Derived.Test.YtmgjfakdjponoabDoorSiEq
import Derived.Test.YtmgjfakdjponoabDoorSiRValid
namespace Go.Proofs.YtmgjfakdjponoabDoor
open Go.RowKit Go.Sort

set_option maxRecDepth 100000 in
set_option maxHeartbeats 4000000 in
theorem sequal_any (ao bo : Option Addr) (ca cb : Nat) (es fs : List (Int × Int)) (w : World) (he : EdgesAt w ao es) (hf : EdgesAt w bo fs) (hl : es.length ≤ 4611686018427387904) :
    Calls Tryd.prog 27 #[.slice ao es.length ca, .slice bo fs.length cb] w fun e w' => e = .returned (.bool (decide (es = fs))) ∧ Below w.heap.size w w' := by
  have HE := Nu.hid he
  have HF := Nu.hid hf
  clear he hf
  by_cases hll : es.length = fs.length
  · have j1 : ((es.length : Int) != (fs.length : Int)) = false := by simp [hll]
    have HLL := Nu.hid hll
    clear hll
    go_enter Tryd.func27, Tryd.ntmps27
    go_wp2
    go_loopw [13] (fun c wr => ∃ k : Nat, k ≤ es.length ∧ c = .int .i64 k ∧ (∀ j, j < k → es[j]? = fs[j]?) ∧ Below w.heap.size w wr) (fun c _ => es.length - (intOf c).toNat)
    case atStart => exact ⟨0, Nat.zero_le _, rfl, fun j h => by omega, Below.refl _ _⟩
    case round =>
      obtain ⟨k, hk, rfl, hsame, hb⟩ := hrel
      have HSAME := Nu.hid hsame
      have HB := Nu.hid hb
      clear hsame
      by_cases hlt : k < es.length
      · have hlti : (k : Int) < (es.length : Int) := by omega
        have hk0 : (0 : Int) ≤ (k : Int) := by omega
        have hlf : (k : Int) < (fs.length : Int) := by have := HLL.out; omega
        obtain ⟨p, hp⟩ : ∃ p, es[k]? = some p := ⟨_, List.getElem?_eq_getElem hlt⟩
        obtain ⟨q, hq⟩ : ∃ q, fs[k]? = some q := ⟨_, List.getElem?_eq_getElem (by omega)⟩
        obtain ⟨b, o, rfl, c0, c1⟩ := (HE.out.later hb) k p hp
        obtain ⟨b', o', rfl, d0, d1⟩ := (HF.out.later hb) k q hq
        have hbl : b < wr.heap.size := block_lt_of_cell c0
        have hbl' : b' < wr.heap.size := block_lt_of_cell d0
        have HP := Nu.hid hp
        have HQ := Nu.hid hq
        clear hp hq hb
        have eqP := eqEdge
        by_cases e1 : p = q
        · have t1 : (p.1 == q.1 && p.2 == q.2) = true := by rw [e1]; simp
          have HPQ := Nu.hid e1
          clear e1
          go_wp2_with fail
          go_quiet (fail)
          clear eqP
          go_wp2
          go_roundw
          case rel =>
            refine ⟨k + 1, by omega, by go_num, fun j hj => ?_, below_drewN HB.out _⟩
            by_cases hjk : j = k
            · subst hjk; rw [HP.out, HQ.out, HPQ.out]
            · exact HSAME.out j (by omega)
          case measure => simp [intOf]; omega
        · have t1 : (p.1 == q.1 && p.2 == q.2) = false := by
            by_cases h1 : p.1 = q.1
            · have : p.2 ≠ q.2 := fun h2 => e1 (Prod.ext h1 h2)
              simp [this]
            · simp [h1]
          have hv : decide (es = fs) = false := by
            simp only [decide_eq_false_iff_not]
            intro h
            rw [h, HQ.out] at HP
            cases HP.out
            exact e1 rfl
          have HV := Nu.hid hv
          clear hv e1
          go_wp2_with fail
          go_quiet (fail)
          clear eqP
          go_wp2
          go_ret
          exact ⟨by rw [HV.out]; rfl, below_drewN HB.out _⟩
      · have hd : ¬ ((k : Int) < (es.length : Int)) := by omega
        have hv : decide (es = fs) = true := by
          simp only [decide_eq_true_eq]
          refine List.ext_getElem? fun j => ?_
          by_cases hj : j < k
          · exact HSAME.out j hj
          · rw [List.getElem?_eq_none (by omega), List.getElem?_eq_none (by have := HLL.out; omega)]
        have HV := Nu.hid hv
        clear hv hb
        go_wp2
        go_ret
        exact ⟨by rw [HV.out]; rfl, HB.out⟩
  · have j1 : ((es.length : Int) != (fs.length : Int)) = true := by simp; omega
    have hv : decide (es = fs) = false := by
      simp only [decide_eq_false_iff_not]
      intro h
      exact hll (by rw [h])
    rw [hv]
    clear hll hv
    go_enter Tryd.func27, Tryd.ntmps27
    go_wp2
    go_ret
    exact ⟨rfl, Below.refl _ _⟩

/-- Both are valid, and equal. -/
noncomputable def Si.same (n m : Int) (es fs : List (Int × Int)) : Bool := Si.valid n es && Si.valid m fs && Si.equal n m es fs

theorem Si.same_comm (n m : Int) (es fs : List (Int × Int)) : Si.same m n fs es = Si.same n m es fs := by
  unfold Si.same Si.equal
  have e : decide (m = n ∧ fs = es) = decide (n = m ∧ es = fs) := by
    rw [decide_eq_decide]
    constructor <;> (rintro ⟨rfl, rfl⟩; exact ⟨rfl, rfl⟩)
  rw [e]
  cases Si.valid n es <;> cases Si.valid m fs <;> rfl

theorem two_graphs (w : World) (A B : Obj) : ((w.alloc A).alloc B).heap[w.heap.size]? = some A ∧ ((w.alloc A).alloc B).heap[w.heap.size + 1]? = some B := by
  refine ⟨?_, ?_⟩
  · rw [Below.heap_alloc _ _ _ (by simp)]
    exact heap_alloc_new w _
  · have := heap_alloc_new (w.alloc A) B
    simpa using this

set_option maxRecDepth 100000 in
set_option maxHeartbeats 8000000 in
theorem same_any (n m : Int) (ao bo : Option Addr) (ca cb : Nat) (es fs : List (Int × Int)) (w : World) (he : EdgesAt w ao es) (hf : EdgesAt w bo fs) (hl : es.length ≤ 4611686018427387904) (hl' : fs.length ≤ 4611686018427387904) :
    Calls Tryd.prog 12 #[graphVal n ao es.length ca, graphVal m bo fs.length cb] w fun e w' => e = .returned (.bool (Si.same n m es fs)) ∧ Below w.heap.size w w' := by
  have HE := Nu.hid he
  have HF := Nu.hid hf
  have hva := fun W (hb : Below w.heap.size w W) => valid_any n ao ca es W (he.later hb) hl
  have hvb := fun W (hb : Below w.heap.size w W) => valid_any m bo cb fs W (hf.later hb) hl'
  have hse := fun W (hb : Below w.heap.size w W) => sequal_any ao bo ca cb es fs W (he.later hb) (hf.later hb) hl
  unfold graphVal at hva hvb ⊢
  have HVA := Nu.hid hva
  have HVB := Nu.hid hvb
  have HSE := Nu.hid hse
  clear he hf hva hvb hse
  have hbw0 : Below w.heap.size w ((w.alloc (.cells #[.int .i64 n, .slice ao es.length ca] 24)).alloc (.cells #[.int .i64 m, .slice bo fs.length cb] 24)) := ((Below.refl _ _).alloc (Nat.le_refl _) _).alloc (by simp) _
  have HBW0 := Nu.hid hbw0
  clear hbw0
  obtain ⟨ga, gb⟩ := two_graphs w (.cells #[.int .i64 n, .slice ao es.length ca] 24) (.cells #[.int .i64 m, .slice bo fs.length cb] 24)
  have HGA := Nu.hid ga
  have HGB := Nu.hid gb
  clear ga gb
  cases hv : Si.valid n es with
  | false =>
    have hs : Si.same n m es fs = false := by unfold Si.same; rw [hv]; rfl
    rw [hs]
    rw [hv] at HVA
    clear hs
    go_enter Tryd.func12, Tryd.ntmps12
    go_wp2_with (go_at_call 6; refine (HVA.out _ HBW0.out).mono ?_; rintro e w' ⟨rfl, hb⟩; refine Hid.out ?_)
    refine Nu.hid ?_
    have HB := Nu.hid (HBW0.out.trans (hb.mono HBW0.out.size))
    clear hb
    go_wp2
    go_ret
    exact ⟨rfl, HB.out⟩
  | true =>
    rw [hv] at HVA
    have HS := Nu.hid (show Si.same n m es fs = _ from by unfold Si.same; rw [hv])
    go_enter Tryd.func12, Tryd.ntmps12
    go_wp2_with (go_at_call 6; refine (HVA.out _ HBW0.out).mono ?_; rintro e w' ⟨rfl, hb⟩; refine Hid.out ?_)
    refine Nu.hid ?_
    have hG1 := (hb.block _ (by simp; omega)).trans HGA.out
    have hG2 := (hb.block _ (by simp)).trans HGB.out
    obtain ⟨a0, a1, -⟩ := pair_cells hG1
    obtain ⟨b0, b1, -⟩ := pair_cells hG2
    have hs2 := lt_of_block hG2
    have hs1 := lt_of_block hG1
    have HB := Nu.hid (HBW0.out.trans (hb.mono HBW0.out.size))
    have HG1 := Nu.hid hG1
    have HG2 := Nu.hid hG2
    clear hb hG1 hG2
    cases hv2 : Si.valid m fs with
    | false =>
      rw [hv2] at HVB HS
      go_wp2_with (go_at_call 6; refine (HVB.out _ HB.out).mono ?_; rintro e w2 ⟨rfl, hb⟩; refine Hid.out ?_)
      refine Nu.hid ?_
      have HB2 := Nu.hid (HB.out.trans (hb.mono HB.out.size))
      clear hb
      go_wp2
      go_ret
      exact ⟨by rw [HS.out]; rfl, HB2.out⟩
    | true =>
      rw [hv2] at HVB HS
      go_wp2_with (go_at_call 6; refine (HVB.out _ HB.out).mono ?_; rintro e w2 ⟨rfl, hb⟩; refine Hid.out ?_)
      refine Nu.hid ?_
      have HB2 := Nu.hid (HB.out.trans (hb.mono HB.out.size))
      obtain ⟨x0, x1, -⟩ := pair_cells ((hb.block _ hs1).trans HG1.out)
      obtain ⟨y0, y1, -⟩ := pair_cells ((hb.block _ hs2).trans HG2.out)
      have hz := hb.size
      clear hb a0 a1 b0 b1
      by_cases hnm : n = m
      · have j0 : (n == m) = true := by simp [hnm]
        have HNM := Nu.hid hnm
        clear hnm
        go_wp2_with (go_at_call 27; refine (HSE.out _ HB2.out).mono ?_; rintro e w3 ⟨rfl, hb⟩; refine Hid.out ?_)
        refine Nu.hid ?_
        have HB3 := Nu.hid (HB2.out.trans (hb.mono HB2.out.size))
        clear hb
        have hfin : Si.same n m es fs = decide (es = fs) := by
          rw [HS.out]
          unfold Si.equal
          rw [HNM.out]
          simp
        have HFIN := Nu.hid hfin
        clear hfin
        generalize decide (es = fs) = bb at HFIN ⊢
        go_wp2
        go_ret
        exact ⟨by rw [HFIN.out]; rfl, HB3.out⟩
      · have j0 : (n == m) = false := by simp [hnm]
        have hfin : Si.same n m es fs = false := by
          rw [HS.out, Si.equal_no (.inl hnm)]
          rfl
        have HFIN := Nu.hid hfin
        clear hfin hnm
        go_wp2
        go_ret
        exact ⟨by rw [HFIN.out]; rfl, HB2.out⟩

end Go.Proofs.YtmgjfakdjponoabDoor
