/-
  The document's own Induced.
-/
import Derived.Test.YtdkckdbpbdhoaaaEdR9
import Derived.Test.YtdkckdbpbdhoaaaEdPl
import Derived.Test.YtdkckdbpbdhoaaaSiRValid
namespace Go.Proofs.Ytdkckdbpbdhoaaa
open Go.RowKit Go.Sort

set_option maxRecDepth 100000 in
set_option maxHeartbeats 8000000 in
theorem rinduced_any (n : Int) (lo : Option Addr) (q lc : Nat) (l : List Int) (ao : Option Addr) (cap : Nat) (es : List (Int × Int)) (w : World) (he : EdgesAt w ao es) (hl : es.length ≤ 4611686018427387904) (hq : l.length = q) (hat : IntsAt w lo l) (hlq : q ≤ 4611686018427387904) :
    Calls Try.prog 25 #[graphVal n ao es.length cap, .slice lo q lc] w (AnsP (Ed.induced n es l) w) := by
  have HE := Nu.hid he
  have hva := fun W (hb : Below w.heap.size w W) => rvalid_any n ao cap es W (he.later hb) hl
  have hB0 := Bx1.start (w := w) (n := n) (ao := ao) (cap := cap) (es := es)
  unfold graphVal at hva ⊢
  have HVA := Nu.hid hva
  have HB0 := Nu.hid hB0
  have HAT := Nu.hid hat
  have HQ := Nu.hid hq
  clear he hva hB0 hat hq
  cases hv : Si.valid n es with
  | false =>
    have hr : Ed.induced n es l = (0, [], 1) := by unfold Ed.induced; rw [if_pos hv]
    rw [hr]
    rw [hv] at HVA
    clear hv hr
    go_enter Try.func25, Try.ntmps25
    go_wp2_with (go_at_call 33; refine (HVA.out _ HB0.out.low).mono ?_; rintro e w1 ⟨rfl, hb⟩; refine Hid.out ?_)
    refine Nu.hid ?_
    have HB1 := Nu.hid (HB0.out.later hb)
    clear hb
    obtain ⟨g0, g1⟩ := HB1.out.cells
    have hs1 := HB1.out.size
    have hs0 : w.heap.size < w1.heap.size := by omega
    obtain ⟨r0, r1⟩ := HB1.out.rcells
    have f0 := HB1.out.free 0
    have f1 := HB1.out.free 1
    go_wp2
    obtain ⟨hb, s0, s1⟩ := HB1.out.store (.int .i64 0) (.slice none 0 0)
    refine bodyPost_ret (v := .tuple #[.agg #[.int .i64 0, .slice none 0 0], .int .i64 1]) (by simp [results, Try.results25, go_sem, s0, s1]) rfl ?_
    exact ⟨_, rfl, OwnE.nil _ _, hb⟩
  | true =>
    have hval := Si.valid_iff.1 hv
    have hfew := hval.few
    have hlo := hval.lo
    have hhi := hval.hi
    have HVAL := Nu.hid hval
    have HV := Nu.hid hv
    rw [hv] at HVA
    clear hv hval
    obtain ⟨m, rfl⟩ : ∃ m : Nat, n = (m : Int) := ⟨n.toNat, by omega⟩
    have hm20 : m ≤ 1048576 := by omega
    obtain ⟨i0, hi, hz0, hz1, hz2⟩ := info_parts Try.infoNum
    clear hlo hhi hl
    go_enter Try.func25, Try.ntmps25
    go_wp2_with (go_at_call 33; refine (HVA.out _ HB0.out.low).mono ?_; rintro e w1 ⟨rfl, hb⟩; refine Hid.out ?_)
    refine Nu.hid ?_
    have HB1 := Nu.hid (HB0.out.later hb)
    clear hb
    obtain ⟨g0, g1⟩ := HB1.out.cells
    have hs1 := HB1.out.size
    have hs0 : w.heap.size < w1.heap.size := by omega
    obtain ⟨r0, r1⟩ := HB1.out.rcells
    have f0 := HB1.out.free 0
    have f1 := HB1.out.free 1
    go_wp2_with (at_make; refine wpList_make_full _ rfl _ _ 40 rfl w1.heap.size 3 i0 (.int .i64 0) 1 Try.underlying40 hi hz0 hz1 _ _ _ _ m rfl rfl rfl rfl (by rw [hz2]; omega) (by unfold maxLen; omega) (Nat.le_refl _) ?_; refine Hid.out ?_)
    refine Nu.hid ?_
    intro w3 hrow3 hg3
    have HIB : Hid (IntsBlk w3 w1.heap.size (List.replicate m 0)) := by
      refine ints_of_row (B := w1.heap.size) (n := m) ?_
      rw [← made_zeros]
      simpa using hrow3
    have hb3 : Below w1.heap.size w1 w3 := (Below.refl _ _).grown hg3 (Nat.le_refl _) (fun j hj => by cases hj)
    have HB3 := Nu.hid (HB1.out.later hb3)
    clear hrow3 hg3 hb3 g0 g1 r0 r1 f0 f1
    go_wp2
    go_loopw [7] (fun c wr => ∃ (k : Nat) (L : List Int), k ≤ m ∧ c = .int .i64 k ∧ L = List.replicate k (-1) ++ List.replicate (m - k) 0 ∧ IntsBlk wr w1.heap.size L ∧ Bx1 w (m : Int) ao cap es wr) (fun c _ => m - (intOf c).toNat)
    case atStart => exact ⟨0, _, Nat.zero_le _, rfl, by simp, HIB.out, HB3.out⟩
    case round =>
      obtain ⟨k, L, hk, rfl, hL, hrow, hbx⟩ := hrel
      have HROW := Nu.hid hrow
      have HBX := Nu.hid hbx
      have HL := Nu.hid hL
      have hs0 := hrow.lt
      have hsx := hbx.size
      have hsx0 : w.heap.size < wr.heap.size := by omega
      obtain ⟨g0, g1⟩ := hbx.cells
      by_cases hlt : k < m
      · have hlti : (k : Int) < (m : Int) := by omega
        have hk0 : (0 : Int) ≤ (k : Int) := by omega
        have HT := Nu.hid (Ed.minus_set hlt)
        have hLl : k < L.length := by rw [hL]; simp; omega
        obtain ⟨x, hx⟩ : ∃ x, L[k]? = some x := ⟨_, List.getElem?_eq_getElem hLl⟩
        have x0 := hrow.cell hx
        have f0 := hrow.free k
        have HA2 := Nu.hid (hrow.set k (-1))
        have HBX2 : Hid (Bx1 w (m : Int) ao cap es (wr.setCell ⟨w1.heap.size, k, none⟩ (.int .i64 (-1)))) := ⟨HBX.out.low.setCell (by simp; omega) _, (heap_setCell_other _ ⟨w1.heap.size, k, none⟩ _ _ (by simp; omega)).trans HBX.out.box, (heap_setCell_other _ ⟨w1.heap.size, k, none⟩ _ _ (by simp; omega)).trans HBX.out.res⟩
        clear hrow hbx hL hx
        go_wp2
        go_roundw
        case rel => exact ⟨k + 1, _, by omega, by go_num, by rw [← HT.out, HL.out], HA2.out, HBX2.out⟩
        case measure => simp [intOf]; omega
      · have hd : ¬ ((k : Int) < (m : Int)) := by omega
        have hLe : IntsBlk wr w1.heap.size (Ed.pls m l 0) := by
          have h1 : m - k = 0 := by omega
          have h2 : k = m := by omega
          rw [hL, h1, h2] at hrow
          simpa [Ed.pls] using hrow
        have HLE := Nu.hid hLe
        clear hrow hbx hL hLe
        go_wp2
        go_loopw [8] (fun c wt => ∃ (k : Nat) (L : List Int), k ≤ q ∧ c = .int .i64 k ∧ L = Ed.pls m l k ∧ Ed.OnceTo (m : Int) l k ∧ IntsBlk wt w1.heap.size L ∧ Bx1 w (m : Int) ao cap es wt) (fun c _ => q - (intOf c).toNat)
        case atStart => exact ⟨0, _, Nat.zero_le _, rfl, rfl, fun i x h => by omega, HLE.out, HBX.out⟩
        case round =>
          obtain ⟨j, L, hj, rfl, hL, hon, hrow, hbx⟩ := hrel
          have HROW := Nu.hid hrow
          have HBX := Nu.hid hbx
          have HL := Nu.hid hL
          have HON := Nu.hid hon
          have hs0 := hrow.lt
          clear g0 g1
          obtain ⟨g0, g1⟩ := hbx.cells
          obtain ⟨r0, r1⟩ := hbx.rcells
          have f0 := hbx.free 0
          have f1 := hbx.free 1
          have hsx := hbx.size
          have hsx0 : w.heap.size < wr.heap.size := by omega
          by_cases hlt : j < q
          · have hlti : (j : Int) < (q : Int) := by omega
            have hj0 : (0 : Int) ≤ (j : Int) := by omega
            have hjl : j < l.length := by rw [HQ.out]; exact hlt
            obtain ⟨x, hx⟩ : ∃ x, l[j]? = some x := ⟨_, List.getElem?_eq_getElem hjl⟩
            obtain ⟨b, o, rfl, c0⟩ := (HAT.out.later hbx.low) j x hx
            have hbl : b < wr.heap.size := block_lt_of_cell c0
            have HX := Nu.hid hx
            clear hbx hx hon
            by_cases hin : 0 ≤ x ∧ x < (m : Int)
            · obtain ⟨xv, rfl⟩ : ∃ v : Nat, x = (v : Int) := ⟨x.toNat, by omega⟩
              have hx0 : (0 : Int) ≤ (xv : Int) := hin.1
              have hx1 : (xv : Int) < (m : Int) := hin.2
              have hd0 : decide ((xv : Int) < 0) = false := by simp
              have hd1 : decide ((m : Int) ≤ (xv : Int)) = false := by simp; omega
              have hd2 : decide (m ≤ xv) = false := by simp; omega
              obtain ⟨y, hy⟩ : ∃ y, L[xv]? = some y := ⟨_, List.getElem?_eq_getElem (by rw [hL, Ed.pls_length]; omega)⟩
              have hpa := Ed.pls_at (n := m) (l := l) (k := j) (by omega) HON.out xv y (by rw [← hL]; exact hy)
              have y0 := hrow.cell hy
              have HPA := Nu.hid hpa
              have HIN := Nu.hid hin
              clear hpa hy hin
              by_cases hyn : 0 ≤ y
              · have hd3 : decide (0 ≤ y) = true := by simp [hyn]
                have HR : Hid (Ed.induced (m : Int) es l = (0, [], 2)) := by
                  show _ = _
                  unfold Ed.induced
                  rw [if_neg (by rw [HV.out]; simp), if_pos]
                  intro h
                  rcases HPA.out with ⟨e, _⟩ | ⟨i, hi, e, hli⟩
                  · omega
                  · exact (Ed.once_iff.1 h j _ hjl HX.out).2 i hi hli
                clear hrow hL hyn
                go_wp2
                go_quiet (fail)
                have HBD : Hid (Bx1 w (m : Int) ao cap es (wr.drewN nq)) := ⟨below_drewN HBX.out.low _, HBX.out.box, HBX.out.res⟩
                clear g0 g1 r0 r1 f0 f1 c0 y0
                generalize wr.drewN nq = w4 at HBD ⊢
                obtain ⟨r0, r1⟩ := HBD.out.rcells
                have f0 := HBD.out.free 0
                have f1 := HBD.out.free 1
                go_wp2
                obtain ⟨hb, s0, s1⟩ := HBD.out.store (.int .i64 0) (.slice none 0 0)
                refine bodyPost_ret (v := .tuple #[.agg #[.int .i64 0, .slice none 0 0], .int .i64 2]) (by simp [results, Try.results25, go_sem, s0, s1]) rfl ?_
                rw [HR.out]
                exact ⟨_, rfl, OwnE.nil _ _, hb⟩
              · have hd3 : decide (0 ≤ y) = false := by simp; omega
                have HYN := Nu.hid hyn
                clear hL hyn
                go_wp2
                go_quiet (fail)
                have HBD : Hid (Bx1 w (m : Int) ao cap es (wr.drewN nq)) := ⟨below_drewN HBX.out.low _, HBX.out.box, HBX.out.res⟩
                have HRD : Hid (IntsBlk (wr.drewN nq) w1.heap.size L) := HROW.out
                have c0' : (wr.drewN nq).cell? ⟨b, o + j, none⟩ = some (.int .i64 (xv : Int)) := c0
                have y0' : (wr.drewN nq).cell? ⟨w1.heap.size, xv, none⟩ = some (.int .i64 y) := y0
                clear g0 g1 r0 r1 f0 f1 c0 y0 hrow
                generalize wr.drewN nq = w4 at HBD HRD c0' y0' ⊢
                have yf := HRD.out.free xv
                have HA2 := Nu.hid (HRD.out.set xv (j : Int))
                have hs4 := HBD.out.size
                have HBX := HBD
                have HBX2 : Hid (Bx1 w (m : Int) ao cap es (w4.setCell ⟨w1.heap.size, xv, none⟩ (.int .i64 (j : Int)))) := ⟨HBX.out.low.setCell (by simp; omega) _, (heap_setCell_other _ ⟨w1.heap.size, xv, none⟩ _ _ (by simp; omega)).trans HBX.out.box, (heap_setCell_other _ ⟨w1.heap.size, xv, none⟩ _ _ (by simp; omega)).trans HBX.out.res⟩
                go_wp2
                go_roundw
                case rel =>
                  refine ⟨j + 1, _, by omega, by go_num, ?_, ?_, HA2.out, HBX2.out⟩
                  · have e : l.getD j 0 = (xv : Int) := by rw [List.getD_eq_getElem?_getD, HX.out]; rfl
                    show _ = (Ed.pls m l j).set _ _
                    rw [e, ← HL.out]
                    rfl
                  · refine HON.out.more HX.out HIN.out fun i hi => ?_
                    rcases HPA.out with ⟨_, h⟩ | ⟨i', _, e, _⟩
                    · exact h i hi
                    · have := HYN.out
                      omega
                case measure => simp [intOf]; omega
            · have HR : Hid (Ed.induced (m : Int) es l = (0, [], 2)) := by
                show _ = _
                unfold Ed.induced
                rw [if_neg (by rw [HV.out]; simp), if_pos (fun h => hin (h.1 x (List.mem_of_getElem? HX.out)))]
              clear hrow hL
              by_cases hxn : x < 0
              · have hd0 : decide (x < 0) = true := by simp [hxn]
                clear hin hxn
                go_wp2
                go_quiet (fail)
                have HBD : Hid (Bx1 w (m : Int) ao cap es (wr.drewN nq)) := ⟨below_drewN HBX.out.low _, HBX.out.box, HBX.out.res⟩
                clear g0 g1 r0 r1 f0 f1 c0
                generalize wr.drewN nq = w4 at HBD ⊢
                obtain ⟨r0, r1⟩ := HBD.out.rcells
                have f0 := HBD.out.free 0
                have f1 := HBD.out.free 1
                go_wp2
                obtain ⟨hb, s0, s1⟩ := HBD.out.store (.int .i64 0) (.slice none 0 0)
                refine bodyPost_ret (v := .tuple #[.agg #[.int .i64 0, .slice none 0 0], .int .i64 2]) (by simp [results, Try.results25, go_sem, s0, s1]) rfl ?_
                rw [HR.out]
                exact ⟨_, rfl, OwnE.nil _ _, hb⟩
              · have hd0 : decide (x < 0) = false := by simp; omega
                have hd1 : decide ((m : Int) ≤ x) = true := by simp; omega
                clear hin hxn
                go_wp2
                go_quiet (fail)
                have HBD : Hid (Bx1 w (m : Int) ao cap es (wr.drewN nq)) := ⟨below_drewN HBX.out.low _, HBX.out.box, HBX.out.res⟩
                clear g0 g1 r0 r1 f0 f1 c0
                generalize wr.drewN nq = w4 at HBD ⊢
                obtain ⟨r0, r1⟩ := HBD.out.rcells
                have f0 := HBD.out.free 0
                have f1 := HBD.out.free 1
                go_wp2
                obtain ⟨hb, s0, s1⟩ := HBD.out.store (.int .i64 0) (.slice none 0 0)
                refine bodyPost_ret (v := .tuple #[.agg #[.int .i64 0, .slice none 0 0], .int .i64 2]) (by simp [results, Try.results25, go_sem, s0, s1]) rfl ?_
                rw [HR.out]
                exact ⟨_, rfl, OwnE.nil _ _, hb⟩
          · have hd : ¬ ((j : Int) < (q : Int)) := by omega
            have hjq : j = l.length := by rw [HQ.out]; omega
            have hon2 : Ed.Once (m : Int) l := Ed.once_iff.2 (by rw [← hjq]; exact hon)
            have HLp : Hid (L = Ed.pl m l) := by rw [hL, hjq]; exact rfl
            have HR : Hid (Ed.induced (m : Int) es l = ((q : Int), Ed.named (Ed.pl m l) es, 0)) := by
              show _ = _
              unfold Ed.induced
              rw [if_neg (by rw [HV.out]; simp), if_neg (fun h => h hon2), HQ.out, Int.toNat_natCast]
            have HRN := Nu.hid (rnamed_any (m : Int) (some ⟨w1.heap.size, 0, none⟩) m m (Ed.pl m l) ao cap es wr (HE.out.later hbx.low) hfew (Ed.pl_length _ _) (by rw [← HLp.out]; exact hrow.at) (Ed.val_fits HVAL.out (by rw [Ed.pl_length])) (Ed.pl_inj hon2) (Si.sorted_nodup (Ed.sorted_of_val HVAL.out)))
            clear hrow hL hon hon2 hbx hjq
            go_wp2_with (go_at_call 47; refine HRN.out.mono ?_; rintro e w4 ⟨v, rfl, hown, hb3⟩; have hown2 : OwnE w4 w.heap.size v (Ed.named (Ed.pl m l) es) := hown.lower (by omega); obtain ⟨va, vc, rfl, -, -, -, -⟩ := hown.form; have HB4 := Nu.hid (HBX.out.later hb3); clear r0 r1 f0 f1; obtain ⟨r0, r1⟩ := HB4.out.rcells; have f0 := HB4.out.free 0; have f1 := HB4.out.free 1; have HOWN := Nu.hid hown2; have HFAR := Nu.hid (hown.far (b := w.heap.size + 1) (by omega)); clear hown2 hown hb3)
            obtain ⟨hb, s0, s1⟩ := HB4.out.store (.int .i64 (q : Int)) (.slice va (Ed.named (Ed.pl m l) es).length vc)
            refine bodyPost_ret (v := .tuple #[.agg #[.int .i64 (q : Int), .slice va (Ed.named (Ed.pl m l) es).length vc], .int .i64 0]) (by simp [results, Try.results25, go_sem, s0, s1]) rfl ?_
            rw [HR.out]
            exact ⟨_, rfl, own_put2 HOWN.out HFAR.out _ _, hb⟩

end Go.Proofs.Ytdkckdbpbdhoaaa
