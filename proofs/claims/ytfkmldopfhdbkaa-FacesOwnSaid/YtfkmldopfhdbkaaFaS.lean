/-
  Faces, the document: Of.
-/
import Derived.Test.YtfkmldopfhdbkaaFaR
namespace Go.Proofs.Ytfkmldopfhdbkaa
open Go.RowKit Go.Sort

set_option maxRecDepth 100000 in
set_option maxHeartbeats 8000000 in
theorem r12of_any (n : Int) (ao : Option Addr) (ca : Nat) (es : List (Int × Int)) (xo : Option Addr) (xc : Nat) (ls : List (List Int)) (w : World) (he : EdgesAt w ao es) (hl : es.length ≤ 4611686018427387904) (hx : RwsAt w xo ls) :
    Calls Try.prog 13 #[graphVal n ao es.length ca, .slice xo ls.length xc] w (FacQ (Ro.check n es ls).2 (Fa.all es ls) w) := by
  obtain ⟨i0, hi0, hz0, hz1, hz2⟩ := info_parts Try.infoBool
  have hb0 : Below w.heap.size w (w.alloc (.cells #[.int .i64 n, .slice ao es.length ca] 24)) := (Below.refl _ _).alloc (Nat.le_refl _) _
  have HN := Nu.hid (rstep_any n ao ca es xo xc ls _ (he.later hb0) hl (hx.later hb0))
  have HB0 := Nu.hid hb0
  unfold graphVal at HN ⊢
  obtain ⟨C, hC⟩ : ∃ C, C = (Ro.check n es ls).2 := ⟨_, rfl⟩
  have HC := Nu.hid hC
  rw [← hC] at HN ⊢
  clear he hx hb0 hC
  go_enter Try.func13, Try.ntmps13
  go_wp2_with (go_at_call 33; refine HN.out.mono ?_; intro e w1 hp; obtain ⟨hb1, v, rfl, ⟨hc, rfl⟩ | ⟨hc, hov⟩⟩ := hp <;> refine Hid.out ?_)
  all_goals refine Nu.hid ?_
  · have HB := Nu.hid (HB0.out.trans (hb1.mono HB0.out.size))
    have hcb : (C != 0) = true := by simpa using hc
    have HC1 := Nu.hid hc
    clear hc hb1
    go_wp2
    go_ret2
    exact ⟨HB.out, .inl ⟨HC1.out, rfl⟩⟩
  · have hc' := hc
    rw [HC.out] at hc'
    have hr := Ro.check_iff.1 hc'
    have hv := Si.valid_iff.1 hr.val
    obtain ⟨N, rfl⟩ : ∃ N : Nat, n = (N : Int) := ⟨n.toNat, by have := hv.lo; omega⟩
    have hper := Fa.ph_per hr
    obtain ⟨m, ho⟩ := Fa.orb_ex hper
    have hfew := hv.few
    have HPER := Nu.hid hper
    have HO := Nu.hid ho
    have HB := Nu.hid (HB0.out.trans (hb1.mono HB0.out.size))
    have hs1 := HB.out.size
    obtain ⟨so, sc, hse, hsa, hsb⟩ := hov.form
    rw [Fa.stepsL_len] at hse
    subst hse
    have HC1 := Nu.hid hc
    subst hc
    obtain ⟨M, hM⟩ : ∃ M, M = 2 * es.length := ⟨_, rfl⟩
    obtain ⟨f, hf⟩ : ∃ f, f = Fa.ph es ls := ⟨_, rfl⟩
    have HALL : Hid (Fa.all es ls = (Fa.facesTo f M M).map Fa.zl) := by rw [hf, hM]; rfl
    rw [← hM, ← hf] at hsa HPER HO
    rw [← hM]
    have hM8 : M ≤ 8388608 := by omega
    have hmk : ∀ W, (Instr.makeSlice 64 (.int .i64 (M : Int)) (.int .i64 (M : Int))).run Try.prog W = .ok (.slice (some ⟨W.heap.size, 0, none⟩) M M) (W.alloc (.cells (madeCells #[.bool false] M) 4)) := fun W => by
      have := run_make (P := Try.prog) W 64 4 i0 (.bool false) Try.underlying64 hi0 hz0 .i64 .i64 (M : Int) (M : Int) (by omega) (Int.le_refl _) (by rw [hz2]; omega) (by omega)
      rw [this, hz1]
      simp [Value.cells]
    obtain ⟨w2, hw2⟩ : ∃ w2, w2 = w1.alloc (.cells (madeCells #[.bool false] M) 4) := ⟨_, rfl⟩
    have hb2 : Below w1.heap.size w1 w2 := by rw [hw2]; exact (Below.refl _ _).alloc (Nat.le_refl _) _
    have hs2 : w1.heap.size < w2.heap.size := by rw [hw2]; simp
    have HI0 : Hid (BoolsIn w2 w1.heap.size M (fun x => decide (m x < 0))) := by rw [hw2]; exact (made_bools rfl M).congr12 fun i _ => by simp
    have HB2 := Nu.hid (HB.out.trans (hb2.mono HB.out.size))
    have HSA : Hid (∀ U, Below w1.heap.size w2 U → IntsAt U so (Fa.stepsL f M)) := fun U hU => hsa.low (fun x hx => (hsb x hx).2) (hb2.trans hU)
    have t0 : ((0 : Int) != 0) = false := rfl
    have HW2 := Nu.hid hw2
    clear hb1 hov hsa hsb hr hv hper ho hb2 hM hf hw2 hfew
    go_wp2
    rw [← HW2.out]
    clear hmk HW2
    go_loopw [9, 10] (fun c9 c10 wr => ∃ (k : Nat) (vs : List Value), k ≤ M ∧ c10 = .int .i64 (k : Int) ∧ RowsZ wr w2.heap.size c9 vs ((Fa.facesTo f M k).map Fa.zl) ∧ BoolsIn wr w1.heap.size M (fun x => decide (m x < k)) ∧ Below w1.heap.size w2 wr) (fun _ c10 _ => M - (intOf c10).toNat)
    case atStart => exact ⟨0, [], Nat.zero_le _, rfl, RowsZ.nil _ _, HI0.out, Below.refl _ _⟩
    case round =>
      obtain ⟨k, vs, hk, rfl, hR, hI, hb⟩ := hrel
      obtain ⟨W0, rfl⟩ : ∃ W0, W0 = wr := ⟨_, rfl⟩
      obtain ⟨uo, q, uc, rfl⟩ : ∃ a q c, u9 = .slice a q c := by
        obtain ⟨a, c, e⟩ := row_shape hR
        exact ⟨_, _, _, e⟩
      have HR := Nu.hid hR
      have HI := Nu.hid hI
      have HBB := Nu.hid hb
      have hsz := hb.size
      have hwk : IntKind.i64.wrap ((k : Int) + 1) = (k : Int) + 1 := by rw [IntKind.wrap_i64]; omega
      by_cases hlt : k < M
      · have hlti : (k : Int) < (M : Int) := by omega
        have hk0 : (0 : Int) ≤ (k : Int) := by omega
        have hc := hI.cell hlt
        have hle := HO.out.norm.le k hlt
        by_cases e : m k = k
        · have e1 : decide (m k < k) = false := by simp [e]
          rw [e1] at hc
          have HE := Nu.hid e
          obtain ⟨p, hp⟩ := Fa.len_ex HPER.out hlt
          have HP := Nu.hid hp
          have hple := hp.le
          have HLT := Nu.hid (fun i => Pl.it_lt HPER.out.lt i hlt)
          have HMK : Hid (∀ i, m (Pl.it f i k) = k) := fun i => by
            have := (HO.out.iff k (Pl.it f i k) hlt (HLT.out i)).2 ⟨i, rfl⟩
            rw [← this, e]
          clear hR hI hb e e1 hle hp
          go_wp2
          clear hc
          go_loopw [11, 12] (fun c11 c12 wr => ∃ j : Nat, j ≤ p ∧ c12 = .int .i64 (Pl.it f j k : Int) ∧ OwnZ wr W0.heap.size c11 (Fa.zl (Fa.way f k j)) ∧ BoolsIn wr w1.heap.size M (fun y => decide (m y < k) || (Fa.way f k j).contains y) ∧ RowsZ wr w2.heap.size (.slice uo q uc) vs ((Fa.facesTo f M k).map Fa.zl) ∧ Below w1.heap.size w2 wr ∧ W0.heap.size ≤ wr.heap.size) (fun c11 _ _ => p - slLen c11)
          case atStart => exact ⟨0, Nat.zero_le _, rfl, OwnZ.nil _ _, HI.out.congr12 fun i _ => by simp [Fa.way], HR.out, HBB.out, Nat.le_refl _⟩
          case round =>
            obtain ⟨j, hj, rfl, hO, hI, hR, hb, hsW⟩ := hrel
            obtain ⟨W1, rfl⟩ : ∃ W1, W1 = wr := ⟨_, rfl⟩
            obtain ⟨fo, fc, hfe, -⟩ := hO.form
            rw [Fa.zl_len, Fa.way_len] at hfe
            subst hfe
            obtain ⟨y, hy⟩ : ∃ y, y = Pl.it f j k := ⟨_, rfl⟩
            have hyl := HLT.out j
            have hmy := HMK.out j
            rw [← hy] at hyl hmy ⊢
            have hyi : (y : Int) < (M : Int) := by omega
            have hy0 : (0 : Int) ≤ (y : Int) := by omega
            have HO1 := Nu.hid hO
            have HI1 := Nu.hid hI
            have HR1 := Nu.hid hR
            have HB1 := Nu.hid hb
            have hcy := hI.cell hyl
            have hd1 : decide (m y < k) = false := by simp [hmy]
            rw [hd1, Bool.false_or] at hcy
            by_cases hjp : j < p
            · have hnm := Fa.way_new HPER.out hlt HP.out hjp
              rw [← hy] at hnm
              have hct : (Fa.way f k j).contains y = false := by
                cases hcon : (Fa.way f k j).contains y with
                | false => rfl
                | true => exact absurd (List.contains_iff_mem.1 hcon) hnm
              rw [hct] at hcy
              have hfr := hI.free y
              obtain ⟨W2, hW2⟩ : ∃ W2, W2 = W1.setCell ⟨w1.heap.size, y, none⟩ (.bool true) := ⟨_, rfl⟩
              have HI2 : Hid (BoolsIn W2 w1.heap.size M (fun z => decide (m z < k) || (Fa.way f k (j + 1)).contains z)) := by
                rw [hW2]
                refine (hI.set y true).congr12 fun z _ => ?_
                rw [Fa.way_succ, ← hy]
                by_cases ez : z = y
                · subst ez
                  rw [Co.updB_same]
                  simp
                · rw [Co.updB_other _ ez]
                  simp [ez]
              have HO2 : Hid (OwnZ W2 W0.heap.size (.slice fo j fc) (Fa.zl (Fa.way f k j))) := by
                rw [hW2]
                exact hO.same fun g' hg _ => blk_same (fun e => by have := (World.ownsRow.lt hO g' hg).1; omega) _
              have HR2 : Hid (RowsZ W2 w2.heap.size (.slice uo q uc) vs ((Fa.facesTo f M k).map Fa.zl)) := by
                rw [hW2]
                refine hR.kept fun b' hb' _ => blk_same (fun e => ?_) _
                have : w2.heap.size ≤ b' := by
                  rcases hb' with hb' | ⟨u, z, hz, hzb⟩
                  · exact (World.ownsRow.lt hR.outer b' hb').1
                  · obtain ⟨l, hl⟩ := hR.at hz
                    exact (World.ownsRow.lt (hR.row u z l hz hl) b' hzb).1
                omega
              have HB2' : Hid (Below w1.heap.size w2 W2) := by rw [hW2]; exact hb.setCell (Nat.le_refl _) _
              have hsW2 : W0.heap.size ≤ W2.heap.size := by rw [hW2]; simpa using hsW
              have HWW := Nu.hid hW2
              have HSZ : Hid (W2.heap.size = W1.heap.size) := by rw [hW2]; exact Nu.hid (by simp)
              have HY := Nu.hid hy
              clear hO hI hR hb hnm hct hd1 hmy hy hW2
              go_wp2_with (at_builtin; rw [← HWW.out]; refine wpList_push rfl _ _ rfl W2 W0.heap.size _ (Fa.zl (Fa.way f k j)) (y : Int) HO2.out hsW2 (by rw [Fa.zl_len, Fa.way_len]; omega) rfl (by rw [HSZ.out]; rfl) ?_; refine Hid.out ?_)
              refine Nu.hid ?_
              intro v' w3 ho3 hg3 hat3 hb3
              have HO3 : Hid (OwnZ w3 W0.heap.size v' (Fa.zl (Fa.way f k (j + 1)))) := by
                rw [Fa.way_succ, ← HY.out]
                unfold Fa.zl
                rw [List.map_append]
                exact ho3
              have hs3 := hb3.size
              have HI3 : Hid (BoolsIn w3 w1.heap.size M (fun z => decide (m z < k) || (Fa.way f k (j + 1)).contains z)) := HI2.out.same (hb3.block _ (by omega))
              have HR3 : Hid (RowsZ w3 w2.heap.size (.slice uo q uc) vs ((Fa.facesTo f M k).map Fa.zl)) := HR2.out.kept fun b' hb' _ => hb3.block b' (by
                rcases hb' with hb' | ⟨u, z, hz, hzb⟩
                · exact (World.ownsRow.lt HR.out.outer b' hb').2
                · obtain ⟨l, hl⟩ := HR.out.at hz
                  exact (World.ownsRow.lt (HR.out.row u z l hz hl) b' hzb).2)
              have HB3 := Nu.hid (HB2'.out.trans (hb3.mono (by omega)))
              obtain ⟨bs, os, hse, hcs⟩ := HSA.out w3 HB3.out y _ (Fa.stepsL_at hyl)
              subst hse
              obtain ⟨vo, vc, hve, -⟩ := HO3.out.form
              rw [Fa.zl_len, Fa.way_len] at hve
              subst hve
              have hfy : f y = Pl.it f (j + 1) k := by rw [Pl.it_succ, HY.out]
              rw [hfy] at hcs
              have hsW3 : W0.heap.size ≤ w3.heap.size := by omega
              have hj1 : j + 1 ≤ p := by omega
              clear ho3 hg3 hat3 hb3 hfy
              go_wp2
              go_roundw
              case rel => exact ⟨j + 1, hj1, rfl, HO3.out, HI3.out, HR3.out, HB3.out, hsW3⟩
              case measure => simp [slLen]; omega
            · have hjp' : j = p := by omega
              have hct : (Fa.way f k j).contains y = true := by
                rw [List.contains_iff_mem, hjp']
                rw [hjp', HP.out.back] at hy
                rw [hy]
                exact (Fa.mem_way HP.out).2 ⟨0, rfl⟩
              rw [hct] at hcy
              have HFW : Hid (Fa.way f k j = Fa.face f M k) := by
                show Fa.way f k j = Fa.face f M k
                rw [Fa.face_way HP.out, hjp']
              have HI3 : Hid (BoolsIn W1 w1.heap.size M (fun x => decide (m x < k + 1))) := by
                refine hI.congr12 fun z hz => ?_
                rw [HFW.out, Bool.eq_iff_iff]
                simp only [Bool.or_eq_true, decide_eq_true_iff, List.contains_iff_mem]
                rw [Fa.mem_face HPER.out HO.out hlt, HE.out]
                omega
              have HRW : Hid (∀ b', ((Value.slice uo q uc).ownBlock = some b' ∨ inV vs b') → b' < W0.heap.size) := fun b' hb' => by
                rcases hb' with hb' | ⟨u, z, hz, hzb⟩
                · exact (World.ownsRow.lt HR.out.outer b' hb').2
                · obtain ⟨l, hl⟩ := HR.out.at hz
                  exact (World.ownsRow.lt (HR.out.row u z l hz hl) b' hzb).2
              have HOW : Hid (∀ b', (Value.slice fo j fc).ownBlock = some b' → W0.heap.size ≤ b') := fun b' hb' => (World.ownsRow.lt hO b' hb').1
              have hfl : ((Fa.facesTo f M k).map Fa.zl).length ≤ 8388608 := by
                rw [List.length_map, Fa.facesTo_len HPER.out HO.out hk]
                have := Co.cntTo_le (Co.fix m) k
                omega
              clear hO hI hR hb hct hd1 hmy hy hjp'
              go_wp2_with (at_builtin; refine wpList_pushRowG rfl _ _ 25 Try.underlying25 rfl W1 w2.heap.size (.slice uo q uc) vs ((Fa.facesTo f M k).map Fa.zl) (.slice fo j fc) (Fa.zl (Fa.way f k j)) HR1.out (HO1.out.lower (by omega)) (fun u z b hz hzb e => by have h1 := HRW.out b (.inr ⟨u, z, hz, hzb⟩); have h2 := HOW.out b e; omega) (fun b hb e => by have h1 := HRW.out b (.inl hb); have h2 := HOW.out b e; omega) (by omega) (by omega) rfl rfl ?_; refine Hid.out ?_)
              refine Nu.hid ?_
              intro v4 w4 hr4 hk4 hv4 hb4
              have hbd : ∀ b', (Value.slice uo q uc).ownBlock = some b' → w2.heap.size ≤ b' := fun b' hb' => (World.ownsRow.lt HR1.out.outer b' hb').1
              have HR4 : Hid (RowsZ w4 w2.heap.size v4 (vs ++ [.slice fo j fc]) ((Fa.facesTo f M (k + 1)).map Fa.zl)) := by
                rw [Fa.facesTo_yes HPER.out HO.out hlt HE.out, List.map_append]
                rw [HFW.out] at hr4
                exact hr4
              have HI4 : Hid (BoolsIn w4 w1.heap.size M (fun x => decide (m x < k + 1))) := HI3.out.same (hk4 _ HI3.out.lt (fun e => by have := hbd _ e; omega))
              have HB4 := Nu.hid (HB1.out.trans (hb4.mono (by omega)))
              clear hr4 hk4 hv4 hb4 hbd
              go_wp2
              go_roundw
              case rel => exact ⟨k + 1, _, by omega, by go_num, HR4.out, HI4.out, HB4.out⟩
              case measure => simp [intOf]; omega
        · have e1 : decide (m k < k) = true := by simp; omega
          rw [e1] at hc
          have HI3 : Hid (BoolsIn W0 w1.heap.size M (fun x => decide (m x < k + 1))) := by
            refine hI.congr12 fun y hy => ?_
            have : m y ≠ k := fun h => by
              have := HO.out.norm.idem y hy
              rw [h] at this
              exact e this
            rw [Bool.eq_iff_iff, decide_eq_true_iff, decide_eq_true_iff]
            omega
          have HR3 : Hid (RowsZ W0 w2.heap.size (.slice uo q uc) vs ((Fa.facesTo f M (k + 1)).map Fa.zl)) := by
            rw [Fa.facesTo_no HPER.out HO.out hlt e]
            exact hR
          clear hR hI hb e e1 hle
          go_wp2
          go_roundw
          case rel => exact ⟨k + 1, vs, by omega, by go_num, HR3.out, HI3.out, HBB.out⟩
          case measure => simp [intOf]; omega
      · have hd : ¬ (k : Int) < (M : Int) := by omega
        have hkn : k = M := by omega
        have HR3 : Hid (RowsZ W0 w.heap.size (.slice uo q uc) vs (Fa.all es ls)) := by
          have h3 : RowsZ W0 w.heap.size (.slice uo q uc) vs ((Fa.facesTo f M k).map Fa.zl) := hR.lower (by omega)
          rw [hkn] at h3
          rw [HALL.out]
          exact h3
        have HBE := Nu.hid (HB2.out.trans (hb.mono hs1))
        clear hR hI hb hkn
        go_wp2
        go_ret2
        exact ⟨HBE.out, .inr ⟨rfl, _, vs, rfl, HR3.out⟩⟩

end Go.Proofs.Ytfkmldopfhdbkaa
