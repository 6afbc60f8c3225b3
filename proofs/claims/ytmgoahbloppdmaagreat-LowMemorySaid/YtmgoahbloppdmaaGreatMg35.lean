import Derived.Test.YtmgoahbloppdmaaGreatMg02
import Derived.Test.YtmgoahbloppdmaaGreatMg34
import Derived.Test.YtmgoahbloppdmaaGreatMg30
/-
  Whether a graph is valid, as the document asks it.
-/
namespace Go.Proofs.YtmgoahbloppdmaaGreat
open Go.RowKit Go.Sort

set_option maxRecDepth 100000 in
set_option maxHeartbeats 8000000 in
theorem rvalid_any (n : Int) (ao : Option Addr) (cap : Nat) (es : List (Int × Int)) (w : World) (he : EdgesAt w ao es) (hl : es.length ≤ 4611686018427387904) :
    Calls Tryz.prog 15 #[graphVal n ao es.length cap] w fun e w' => e = .returned (.bool (Si.valid n es)) ∧ Below w.heap.size w w' := by
  have HE := Nu.hid he
  clear he
  unfold graphVal
  by_cases h1 : n < 0
  · have hv := Si.valid_no (n := n) (es := es) (fun h => by have := h.lo; omega)
    rw [hv]
    go_enter Tryz.func15, Tryz.ntmps15
    go_wp2
    go_ret
    exact ⟨rfl, (Below.refl _ _).alloc (Nat.le_refl _) _⟩
  by_cases h2 : 1048576 < n
  · have hv := Si.valid_no (n := n) (es := es) (fun h => by have := h.hi; omega)
    rw [hv]
    go_enter Tryz.func15, Tryz.ntmps15
    go_wp2
    go_ret
    exact ⟨rfl, (Below.refl _ _).alloc (Nat.le_refl _) _⟩
  by_cases h3 : 4194304 < (es.length : Int)
  · have hv := Si.valid_no (n := n) (es := es) (fun h => by have := h.few; omega)
    rw [hv]
    go_enter Tryz.func15, Tryz.ntmps15
    go_wp2
    go_ret
    exact ⟨rfl, (Below.refl _ _).alloc (Nat.le_refl _) _⟩
  go_enter Tryz.func15, Tryz.ntmps15
  go_wp2
  go_loopw [3] (fun c wr => ∃ (k : Nat) (l : Int × Int), k ≤ es.length ∧ c = .int .i64 k ∧ Si.UpTo n es k l ∧ wr.heap[w.heap.size]? = some (.cells #[.int .i64 n, .slice ao es.length cap] 24 (0, 0)) ∧ Below w.heap.size w wr) (fun c _ => es.length - (intOf c).toNat)
  case atStart => exact ⟨0, (0, 0), Nat.zero_le _, rfl, Si.UpTo.start n es, heap_alloc_new w _, (Below.refl _ _).alloc (Nat.le_refl _) _⟩
  case round =>
    obtain ⟨k, l, hk, rfl, hup, hgb, hb⟩ := hrel
    obtain ⟨g0, g1, -⟩ := pair_cells hgb
    have hsz0 := lt_of_block hgb
    have HGB := Nu.hid hgb
    have HUP := Nu.hid hup
    have HB := Nu.hid hb
    clear hgb hup
    by_cases hlt : k < es.length
    · have hlti : (k : Int) < (es.length : Int) := by omega
      have hk0 : (0 : Int) ≤ (k : Int) := by omega
      obtain ⟨p, hp⟩ : ∃ p, es[k]? = some p := ⟨_, List.getElem?_eq_getElem hlt⟩
      obtain ⟨b, o, rfl, c0, c1⟩ := (HE.out.later hb) k p hp
      have hbl : b < wr.heap.size := block_lt_of_cell c0
      have HP := Nu.hid hp
      clear hp
      by_cases q1 : p.1 < 0
      · have hv := Si.valid_no (n := n) (es := es) (fun h => by have := (HUP.out.must h HP.out).1.1; omega)
        clear hb
        go_wp2
        go_ret
        exact ⟨by first | rfl | exact congrArg (fun b => Ending.returned (.bool b)) hv.symm, HB.out.alloc (by omega) _⟩
      by_cases q2 : p.1 < p.2
      rotate_left
      · have hv := Si.valid_no (n := n) (es := es) (fun h => by have := (HUP.out.must h HP.out).1.2.1; omega)
        clear hb
        go_wp2
        go_ret
        exact ⟨by first | rfl | exact congrArg (fun b => Ending.returned (.bool b)) hv.symm, HB.out.alloc (by omega) _⟩
      by_cases q3 : p.2 < n
      rotate_left
      · have hv := Si.valid_no (n := n) (es := es) (fun h => by have := (HUP.out.must h HP.out).1.2.2; omega)
        clear hb
        go_wp2
        go_ret
        exact ⟨by first | rfl | exact congrArg (fun b => Ending.returned (.bool b)) hv.symm, HB.out.alloc (by omega) _⟩
      have hok : Si.ok n p := ⟨by omega, q2, q3⟩
      have hbA : Below wr.heap.size wr (wr.alloc (.cells #[.int .i64 p.1, .int .i64 p.2] 47)) := (Below.refl _ _).alloc (Nat.le_refl _) _
      by_cases hkz : k = 0
      · have hkn : ¬ ((0 : Int) < (k : Int)) := by omega
        have hlt0 : Si.lt l p := by
          have := HUP.out
          rw [hkz] at this
          exact this.first hok
        have HST := Nu.hid (HUP.out.step HP.out hok hlt0)
        have HBA := Nu.hid (HB.out.trans (hbA.mono HB.out.size))
        have HG2 := Nu.hid ((hbA.block _ hsz0).trans HGB.out)
        clear hok hbA hb hkz hlt0
        go_wp2
        go_roundw
        case rel => exact ⟨k + 1, p, by omega, by go_num, HST.out, HG2.out, HBA.out⟩
        case measure => simp [intOf]; omega
      · obtain ⟨k', hk'⟩ : ∃ k', k = k' + 1 := ⟨k - 1, by omega⟩
        have hl' : es[k']? = some l := by
          have := HUP.out
          rw [hk'] at this
          exact this.last
        obtain ⟨b2, o2, e2, d0, d1⟩ := (HE.out.later hb) k' l hl'
        cases e2
        have hk1 : (k : Int) - 1 = (k' : Int) := by omega
        have hkw : IntKind.i64.wrap (k' : Int) = (k' : Int) := by simp [IntKind.wrap, IntKind.bits, IntKind.signed]; omega
        have hk'0 : (0 : Int) ≤ (k' : Int) := by omega
        have hk'l : (k' : Int) < (es.length : Int) := by omega
        have hkp : (0 : Int) < (k : Int) := by omega
        have hca := fun W => less_any l p W
        unfold edgeVal at hca
        have HK := Nu.hid hk'
        clear hk' hl' hkz hb
        have HBA := Nu.hid hbA
        have y0 := (hbA.cell (p := ⟨b, o + k' * 2, none⟩) hbl).trans d0
        have y1 := (hbA.cell (p := ⟨b, o + k' * 2 + 1, none⟩) hbl).trans d1
        have z0 := (hbA.cell (p := ⟨w.heap.size, 0, none⟩) hsz0).trans g0
        have z1 := (hbA.cell (p := ⟨w.heap.size, 1, none⟩) hsz0).trans g1
        obtain ⟨p0, p1, -⟩ := pair_cells (heap_alloc_new wr (.cells #[.int .i64 p.1, .int .i64 p.2] 47))
        have hsA : (wr.alloc (.cells #[.int .i64 p.1, .int .i64 p.2] 47)).heap.size = wr.heap.size + 1 := by simp
        by_cases q4 : Si.lt l p
        · have hd : decide (Si.lt l p) = true := by simp [q4]
          rw [hd] at hca
          have HCA := Nu.hid hca
          have HST := Nu.hid (HUP.out.step HP.out hok q4)
          clear hca hd hok hbA d0 d1
          go_wp2_with fail
          generalize hX : wr.alloc (.cells #[.int .i64 p.1, .int .i64 p.2] 47) = X at y0 y1 z0 z1 p0 p1 hsA HBA ⊢
          clear hX c0 c1 g0 g1
          go_region_held3 (fun w' => w'.cell? ⟨b, o + k' * 2, none⟩ = some (.int .i64 l.1) ∧ w'.cell? ⟨b, o + k' * 2 + 1, none⟩ = some (.int .i64 l.2) ∧ w'.cell? ⟨w.heap.size, 1, none⟩ = some (.slice (some ⟨b, o, none⟩) es.length cap) ∧ w'.cell? ⟨wr.heap.size, 0, none⟩ = some (.int .i64 p.1) ∧ w'.cell? ⟨wr.heap.size, 1, none⟩ = some (.int .i64 p.2))
            (first
              | go_keep
              | (go_split_ands
                 refine ⟨?_, ?_, ?_, ?_, ?_⟩ <;> (refine (hb2.cell (p := ⟨_, _, none⟩) ?_).trans ?_ <;> first | assumption | (simp; omega))))
            ((go_at_call 26; refine (HCA.out _).mono ?_; rintro e w2 ⟨rfl, hgr⟩; have hb2 : Below X.heap.size X w2 := (Below.refl X.heap.size X).drew.trans (grown_of_grow hgr)))
          have hb3 : Below wr.heap.size wr w2 := HBA.out.trans (hb2.mono (by omega))
          have HB3 := Nu.hid (HB.out.trans (hb3.mono HB.out.size))
          have HG3 := Nu.hid ((hb3.block _ hsz0).trans HGB.out)
          clear hb2 hb3 hgr
          go_wp2
          go_roundw
          case rel => exact ⟨k + 1, p, by omega, by go_num, HST.out, HG3.out, HB3.out⟩
          case measure => simp [intOf]; omega
        · have hv := Si.valid_no (n := n) (es := es) (fun h => q4 (HUP.out.must h HP.out).2)
          have HV := Nu.hid hv
          have hd : decide (Si.lt l p) = false := by simp [q4]
          rw [hd] at hca
          have HCA := Nu.hid hca
          clear hca hd hok hbA d0 d1 hv
          go_wp2_with fail
          generalize hX : wr.alloc (.cells #[.int .i64 p.1, .int .i64 p.2] 47) = X at y0 y1 z0 z1 p0 p1 hsA HBA ⊢
          clear hX c0 c1 g0 g1
          go_region_held3 (fun w' => w'.cell? ⟨b, o + k' * 2, none⟩ = some (.int .i64 l.1) ∧ w'.cell? ⟨b, o + k' * 2 + 1, none⟩ = some (.int .i64 l.2) ∧ w'.cell? ⟨w.heap.size, 1, none⟩ = some (.slice (some ⟨b, o, none⟩) es.length cap) ∧ w'.cell? ⟨wr.heap.size, 0, none⟩ = some (.int .i64 p.1) ∧ w'.cell? ⟨wr.heap.size, 1, none⟩ = some (.int .i64 p.2))
            (first
              | go_keep
              | (go_split_ands
                 refine ⟨?_, ?_, ?_, ?_, ?_⟩ <;> (refine (hb2.cell (p := ⟨_, _, none⟩) ?_).trans ?_ <;> first | assumption | (simp; omega))))
            ((go_at_call 26; refine (HCA.out _).mono ?_; rintro e w2 ⟨rfl, hgr⟩; have hb2 : Below X.heap.size X w2 := (Below.refl X.heap.size X).drew.trans (grown_of_grow hgr)))
          have hb3 : Below wr.heap.size wr w2 := HBA.out.trans (hb2.mono (by omega))
          have HB3 := Nu.hid (HB.out.trans (hb3.mono HB.out.size))
          clear hb2 hb3 hgr
          go_wp2
          go_ret
          exact ⟨by rw [HV.out]; rfl, HB3.out⟩
    · have hd : ¬ ((k : Int) < (es.length : Int)) := by omega
      obtain rfl : k = es.length := by omega
      have hv := Si.valid_iff.2 (HUP.out.done (by omega) (by omega) (by omega))
      have HV := Nu.hid hv
      clear hb hv
      go_wp2
      go_ret
      exact ⟨by rw [HV.out]; rfl, HB.out⟩

end Go.Proofs.YtmgoahbloppdmaaGreat

/-
  The document's Returns of layer 8.
-/
namespace Go.Proofs.YtmgoahbloppdmaaGreat
open Go.RowKit

set_option maxRecDepth 100000 in
set_option maxHeartbeats 16000000 in
theorem r8returns_any (n : Int) (ao : Option Addr) (ca : Nat) (es : List (Int × Int)) (f : For) (s : Df.St) (x : Int) (w : World) (he : EdgesAt w ao es) (hl : es.length ≤ 4611686018427387904) (hF : LstF w f s) :
    Calls Tryz.prog 10 #[.agg #[.int .i64 n, .slice ao es.length ca], f.val s, .int .i64 x] w (RetPost n es s x w) := by
  obtain ⟨a1, a2, a3, a4, c1, c2, c3, c4⟩ := f
  obtain ⟨W, hW⟩ : ∃ W, W = (w.alloc (.cells #[.int .i64 n, .slice ao es.length ca] 24)).alloc (.cells #[.slice a1 s.par.length c1, .slice a2 s.hei.length c2, .slice a3 s.ord.length c3, .slice a4 s.ori.length c4] 27) := ⟨_, rfl⟩
  have hB0 : Below w.heap.size w W := by rw [hW]; exact ((Below.refl _ _).alloc (Nat.le_refl _) _).alloc (by simp) _
  have g1 : W.heap[w.heap.size]? = some (.cells #[.int .i64 n, .slice ao es.length ca] 24 (0, 0)) := by
    rw [hW, Below.heap_alloc _ _ _ (by simp)]
    exact heap_alloc_new w _
  have g2 : W.heap[w.heap.size + 1]? = some (.cells #[.slice a1 s.par.length c1, .slice a2 s.hei.length c2, .slice a3 s.ord.length c3, .slice a4 s.ori.length c4] 27 (0, 0)) := by
    rw [hW]
    exact alloc_at (by simp)
  have lt1 := lt_of_block g1
  have lt2 := lt_of_block g2
  have HBX : Hid (∀ V, Below W.heap.size W V → V.cell? ⟨w.heap.size, 0, none⟩ = some (.int .i64 n) ∧ V.cell? ⟨w.heap.size, 1, none⟩ = some (.slice ao es.length ca) ∧ V.cell? ⟨w.heap.size + 1, 0, none⟩ = some (.slice a1 s.par.length c1) ∧ V.cell? ⟨w.heap.size + 1, 1, none⟩ = some (.slice a2 s.hei.length c2) ∧ V.cell? ⟨w.heap.size + 1, 2, none⟩ = some (.slice a3 s.ord.length c3) ∧ V.cell? ⟨w.heap.size + 1, 3, none⟩ = some (.slice a4 s.ori.length c4)) := fun V hV => by
    obtain ⟨x0, x1, -⟩ := pair_cells ((hV.block w.heap.size lt1).trans g1)
    obtain ⟨q0, q1, q2, q3, -⟩ := four_cells ((hV.block (w.heap.size + 1) lt2).trans g2)
    exact ⟨x0, x1, q0, q1, q2, q3⟩
  have HAT : Hid (∀ V, Below W.heap.size W V → EdgesAt V ao es ∧ LstF V ⟨a1, a2, a3, a4, c1, c2, c3, c4⟩ s) := fun V hV => ⟨(he.later hB0).later hV, (hF.later hB0).later hV⟩
  have hrv := rvalid_any n ao ca es W (he.later hB0) hl
  unfold graphVal at hrv
  have hdv := fun V (hV : Below W.heap.size W V) => rdvalid_any n ao ca es ⟨a1, a2, a3, a4, c1, c2, c3, c4⟩ s V (HAT.out V hV).1 hl (HAT.out V hV).2
  unfold graphVal For.val at hdv
  dsimp only at hdv
  have HW := Nu.hid hW
  have HB0 := Nu.hid hB0
  obtain ⟨x0, x1, k0, k1, k2, k3⟩ := HBX.out W (Below.refl _ _)
  rw [hW] at x0 x1 k0 k1 k2 k3
  unfold For.val
  dsimp only
  cases hval : Si.valid n es with
  | false =>
    rw [hval] at hrv
    have HRV := Nu.hid hrv
    have HIS : Hid (RetIs n es s x [] 1) := .inl ⟨hval, rfl, rfl⟩
    clear he hF hB0 g1 g2 hW hrv hdv hval
    go_enter Tryz.func10, Tryz.ntmps10
    go_wp2_with (go_at_call 15; rw [← HW.out]; refine HRV.out.mono ?_; rintro r w1 ⟨rfl, hb1⟩; have HB1 := Nu.hid hb1; clear hb1)
    go_ret2
    exact ⟨_, [], 1, rfl, HIS.out, OwnZ.nil _ _, HB0.out.trans (HB1.out.mono HB0.out.size)⟩
  | true =>
    rw [hval] at hrv
    have HRV := Nu.hid hrv
    by_cases hvf : IsVF n es s
    · have HDV : Hid (∀ V, Below W.heap.size W V → Calls Tryz.prog 16 #[.agg #[.int .i64 n, .slice ao es.length ca], .agg #[.slice a1 s.par.length c1, .slice a2 s.hei.length c2, .slice a3 s.ord.length c3, .slice a4 s.ori.length c4]] V fun e w' => e = .returned (.bool true) ∧ Below V.heap.size V w') := fun V hV => BoolPost.yes (hdv V hV) hvf
      by_cases hx0 : 0 ≤ x
      · by_cases hxm : x < (es.length : Int)
        · obtain ⟨e, hxe⟩ : ∃ e : Nat, x = (e : Int) := ⟨x.toNat, by omega⟩
          have HIS : Hid (RetIs n es s x (Lo.rets es s e) 0) := .inr (.inr (.inr ⟨e, hvf, hxe, by omega, rfl, rfl⟩))
          have t0 : decide (x < 0) = false := by simp; omega
          have t1 : decide ((es.length : Int) ≤ x) = false := by simp; omega
          have HOUT : Hid (∀ V, Below W.heap.size W V → Calls Tryz.prog 23 #[.agg #[.int .i64 n, .slice ao es.length ca], .agg #[.slice a1 s.par.length c1, .slice a2 s.hei.length c2, .slice a3 s.ord.length c3, .slice a4 s.ori.length c4], .int .i64 x] V (OutPost8 (Lo.rets es s e) V)) := fun V hV => by
            obtain ⟨m, hm, hv', hVF⟩ := hvf
            have := r8out_any (f := ⟨a1, a2, a3, a4, c1, c2, c3, c4⟩) (ca := ca) e (HAT.out V hV).1 hv' (HAT.out V hV).2 hVF (by omega)
            rw [hm, hxe]
            exact this
          clear he hF hB0 g1 g2 hW hrv hdv hval hvf hx0 hxm hxe
          go_enter Tryz.func10, Tryz.ntmps10
          go_wp2_with (first
            | (go_at_call 15; rw [← HW.out]; refine HRV.out.mono ?_; rintro r w1 ⟨rfl, hb1⟩; have HB1 := Nu.hid hb1; obtain ⟨y0, y1, y2, y3, y4, y5⟩ := HBX.out w1 hb1; clear hb1)
            | (go_at_call 16; refine (HDV.out _ HB1.out).mono ?_; rintro r w2 ⟨rfl, hv2⟩; have hb2 := HB1.out.trans (hv2.mono HB1.out.size); have HB2 := Nu.hid hb2; obtain ⟨z0, z1, z2, z3, z4, z5⟩ := HBX.out w2 hb2; clear hb2 hv2)
            | (go_at_call 23; refine (HOUT.out _ HB2.out).mono ?_; rintro r w3 ⟨v, rfl, hown, hv3⟩; have HO3 := Nu.hid hown; have HB3 := Nu.hid hv3; clear hown hv3))
          go_ret2
          have h2 := HB0.out.trans (HB2.out.mono HB0.out.size)
          exact ⟨_, _, 0, rfl, HIS.out, HO3.out.lower h2.size, h2.trans (HB3.out.mono h2.size)⟩
        · have HIS : Hid (RetIs n es s x [] 2) := .inr (.inr (.inl ⟨hvf, fun h => hxm h.2, rfl, rfl⟩))
          have t0 : decide (x < 0) = false := by simp; omega
          have t1 : decide ((es.length : Int) ≤ x) = true := by simp; omega
          clear he hF hB0 g1 g2 hW hrv hdv hval hvf hx0 hxm
          go_enter Tryz.func10, Tryz.ntmps10
          go_wp2_with (first
            | (go_at_call 15; rw [← HW.out]; refine HRV.out.mono ?_; rintro r w1 ⟨rfl, hb1⟩; have HB1 := Nu.hid hb1; obtain ⟨y0, y1, y2, y3, y4, y5⟩ := HBX.out w1 hb1; clear hb1)
            | (go_at_call 16; refine (HDV.out _ HB1.out).mono ?_; rintro r w2 ⟨rfl, hv2⟩; have hb2 := HB1.out.trans (hv2.mono HB1.out.size); have HB2 := Nu.hid hb2; obtain ⟨z0, z1, z2, z3, z4, z5⟩ := HBX.out w2 hb2; clear hb2 hv2))
          go_ret2
          exact ⟨_, [], 2, rfl, HIS.out, OwnZ.nil _ _, HB0.out.trans (HB2.out.mono HB0.out.size)⟩
      · have HIS : Hid (RetIs n es s x [] 2) := .inr (.inr (.inl ⟨hvf, fun h => hx0 h.1, rfl, rfl⟩))
        have t0 : decide (x < 0) = true := by simp; omega
        clear he hF hB0 g1 g2 hW hrv hdv hval hvf hx0
        go_enter Tryz.func10, Tryz.ntmps10
        go_wp2_with (first
          | (go_at_call 15; rw [← HW.out]; refine HRV.out.mono ?_; rintro r w1 ⟨rfl, hb1⟩; have HB1 := Nu.hid hb1; obtain ⟨y0, y1, y2, y3, y4, y5⟩ := HBX.out w1 hb1; clear hb1)
          | (go_at_call 16; refine (HDV.out _ HB1.out).mono ?_; rintro r w2 ⟨rfl, hv2⟩; have hb2 := HB1.out.trans (hv2.mono HB1.out.size); have HB2 := Nu.hid hb2; obtain ⟨z0, z1, z2, z3, z4, z5⟩ := HBX.out w2 hb2; clear hb2 hv2))
        go_ret2
        exact ⟨_, [], 2, rfl, HIS.out, OwnZ.nil _ _, HB0.out.trans (HB2.out.mono HB0.out.size)⟩
    · have HDV : Hid (∀ V, Below W.heap.size W V → Calls Tryz.prog 16 #[.agg #[.int .i64 n, .slice ao es.length ca], .agg #[.slice a1 s.par.length c1, .slice a2 s.hei.length c2, .slice a3 s.ord.length c3, .slice a4 s.ori.length c4]] V fun e w' => e = .returned (.bool false) ∧ Below V.heap.size V w') := fun V hV => BoolPost.no (hdv V hV) hvf
      have HIS : Hid (RetIs n es s x [] 80) := .inr (.inl ⟨hval, hvf, rfl, rfl⟩)
      clear he hF hB0 g1 g2 hW hrv hdv hval hvf
      go_enter Tryz.func10, Tryz.ntmps10
      go_wp2_with (first
        | (go_at_call 15; rw [← HW.out]; refine HRV.out.mono ?_; rintro r w1 ⟨rfl, hb1⟩; have HB1 := Nu.hid hb1; obtain ⟨y0, y1, y2, y3, y4, y5⟩ := HBX.out w1 hb1; clear hb1)
        | (go_at_call 16; refine (HDV.out _ HB1.out).mono ?_; rintro r w2 ⟨rfl, hv2⟩; have hb2 := HB1.out.trans (hv2.mono HB1.out.size); have HB2 := Nu.hid hb2; clear hb2 hv2))
      go_ret2
      exact ⟨_, [], 80, rfl, HIS.out, OwnZ.nil _ _, HB0.out.trans (HB2.out.mono HB0.out.size)⟩

end Go.Proofs.YtmgoahbloppdmaaGreat
