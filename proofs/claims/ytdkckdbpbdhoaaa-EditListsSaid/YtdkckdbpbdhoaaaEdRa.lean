/-
  The document's own Relabel.
-/
import Derived.Test.YtdkckdbpbdhoaaaEdR9
import Derived.Test.YtdkckdbpbdhoaaaEdPl
import Derived.Test.YtdkckdbpbdhoaaaEdB
import Derived.Test.YtdkckdbpbdhoaaaSiRValid
namespace Go.Proofs.Ytdkckdbpbdhoaaa
open Go.RowKit Go.Sort

theorem Ed.mks_at {m : Nat} {l : List Int} : ∀ {k : Nat}, k ≤ l.length → (∀ (i : Nat) (x : Int), i < k → l[i]? = some x → 0 ≤ x ∧ x < (m : Int)) → ∀ (v : Nat) (b : Bool), (Ed.mks m l k)[v]? = some b → (b = true ↔ ∃ i, i < k ∧ l[i]? = some (v : Int))
  | 0, _, _, v, b, h => by
    simp only [Ed.mks, List.getElem?_replicate] at h
    split at h
    · cases h
      simp
    · cases h
  | k + 1, hk, ho, v, b, h => by
    have hkl : k < l.length := by omega
    have hg : l[k]? = some l[k] := List.getElem?_eq_getElem hkl
    have hd : l.getD k 0 = l[k] := by rw [List.getD_eq_getElem?_getD, hg]; rfl
    obtain ⟨h0, h1⟩ := ho k _ (by omega) hg
    simp only [Ed.mks, hd] at h
    rw [List.getElem?_set] at h
    by_cases hv : l[k].toNat = v
    · rw [if_pos hv, if_pos (by rw [Ed.mks_length]; omega)] at h
      cases h
      simp only [true_iff]
      exact ⟨k, by omega, by rw [hg]; congr 1; omega⟩
    · rw [if_neg hv] at h
      rw [Ed.mks_at (k := k) (by omega) (fun i x hi => ho i x (by omega)) v b h]
      constructor
      · rintro ⟨i, hi, e⟩
        exact ⟨i, by omega, e⟩
      · rintro ⟨i, hi, e⟩
        by_cases hik : i = k
        · subst hik
          rw [hg] at e
          have := Option.some.inj e
          exact absurd (by omega) hv
        · exact ⟨i, by omega, e⟩

theorem Ed.inj_once {n : Int} {l : List Int} (h : Ed.Once n l) : Ed.Inj l := by
  intro i j x hi hj _
  obtain ⟨a, ea⟩ := List.getElem?_eq_some_iff.1 hi
  obtain ⟨b, eb⟩ := List.getElem?_eq_some_iff.1 hj
  exact (List.getElem_inj h.2).1 (ea.trans eb.symm)
set_option maxRecDepth 100000 in
set_option maxHeartbeats 8000000 in
theorem rrelabel_any (n : Int) (lo : Option Addr) (q lc : Nat) (l : List Int) (ao : Option Addr) (cap : Nat) (es : List (Int × Int)) (w : World) (he : EdgesAt w ao es) (hl : es.length ≤ 4611686018427387904) (hq : l.length = q) (hat : IntsAt w lo l) (_ : q ≤ 4611686018427387904) :
    Calls Try.prog 23 #[graphVal n ao es.length cap, .slice lo q lc] w (AnsP (Ed.relabel n es l) w) := by
  have HE := Nu.hid he
  have hva := fun W (hb : Below w.heap.size w W) => rvalid_any n ao cap es W (he.later hb) hl
  have hB0 := Bx1.start (w := w) (n := n) (ao := ao) (cap := cap) (es := es)
  unfold graphVal at hva ⊢
  have HVA := Nu.hid hva
  have HB0 := Nu.hid hB0
  have HAT := Nu.hid hat
  have HQ := Nu.hid hq
  clear he hva hB0 hat hq
  cases hv : Si.valid n es with
  | false =>
    have hr : Ed.relabel n es l = (0, [], 1) := by unfold Ed.relabel; rw [if_pos hv]
    rw [hr]
    rw [hv] at HVA
    clear hv hr
    go_enter Try.func23, Try.ntmps23
    go_wp2_with (go_at_call 33; refine (HVA.out _ HB0.out.low).mono ?_; rintro e w1 ⟨rfl, hb⟩; refine Hid.out ?_)
    refine Nu.hid ?_
    have HB1 := Nu.hid (HB0.out.later hb)
    clear hb
    obtain ⟨g0, g1⟩ := HB1.out.cells
    have hs1 := HB1.out.size
    have hs0 : w.heap.size < w1.heap.size := by omega
    obtain ⟨r0, r1⟩ := HB1.out.rcells
    have f0 := HB1.out.free 0
    have f1 := HB1.out.free 1
    go_wp2
    obtain ⟨hb, s0, s1⟩ := HB1.out.store (.int .i64 0) (.slice none 0 0)
    refine bodyPost_ret (v := .tuple #[.agg #[.int .i64 0, .slice none 0 0], .int .i64 1]) (by simp [results, Try.results23, go_sem, s0, s1]) rfl ?_
    exact ⟨_, rfl, OwnE.nil _ _, hb⟩
  | true =>
    have hval := Si.valid_iff.1 hv
    have hfew := hval.few
    have hlo := hval.lo
    have hhi := hval.hi
    have HVAL := Nu.hid hval
    have HV := Nu.hid hv
    rw [hv] at HVA
    clear hv hval
    obtain ⟨m, rfl⟩ : ∃ m : Nat, n = (m : Int) := ⟨n.toNat, by omega⟩
    have hm20 : m ≤ 1048576 := by omega
    by_cases hqm : q = m
    · subst hqm
      obtain ⟨i0, hi, hz0, hz1, hz2⟩ := info_parts Try.infoBoolE
      have hne : ((q : Int) != (q : Int)) = false := by simp
      clear hlo hhi hl
      go_enter Try.func23, Try.ntmps23
      go_wp2_with (go_at_call 33; refine (HVA.out _ HB0.out.low).mono ?_; rintro e w1 ⟨rfl, hb⟩; refine Hid.out ?_)
      refine Nu.hid ?_
      have HB1 := Nu.hid (HB0.out.later hb)
      clear hb
      obtain ⟨g0, g1⟩ := HB1.out.cells
      have hs1 := HB1.out.size
      have hs0 : w.heap.size < w1.heap.size := by omega
      obtain ⟨r0, r1⟩ := HB1.out.rcells
      have f0 := HB1.out.free 0
      have f1 := HB1.out.free 1
      go_wp2_with (at_make; refine wpList_make_full _ rfl _ _ 68 rfl w1.heap.size 4 i0 (.bool false) 1 Try.underlying68 hi hz0 hz1 _ _ _ _ q rfl rfl rfl rfl (by rw [hz2]; omega) (by unfold maxLen; omega) (Nat.le_refl _) ?_; refine Hid.out ?_)
      refine Nu.hid ?_
      intro w3 hrow3 hg3
      have HBL : Hid (BlsBlk w3 w1.heap.size (List.replicate q false)) := by
        refine bls_of_row (B := w1.heap.size) (n := q) ?_
        rw [← made_bls]
        simpa using hrow3
      have hb3 : Below w1.heap.size w1 w3 := (Below.refl _ _).grown hg3 (Nat.le_refl _) (fun j hj => by cases hj)
      have HB3 := Nu.hid (HB1.out.later hb3)
      clear hrow3 hg3 hb3 g0 g1 r0 r1 f0 f1
      go_wp2
      go_loopw [7] (fun c wr => ∃ (k : Nat) (L : List Bool), k ≤ q ∧ c = .int .i64 k ∧ L = Ed.mks q l k ∧ Ed.OnceTo (q : Int) l k ∧ BlsBlk wr w1.heap.size L ∧ Bx1 w (q : Int) ao cap es wr) (fun c _ => q - (intOf c).toNat)
      case atStart => exact ⟨0, _, Nat.zero_le _, rfl, rfl, fun i x h => by omega, HBL.out, HB3.out⟩
      case round =>
        obtain ⟨k, L, hk, rfl, hL, hon, hbls, hbx⟩ := hrel
        have HBLS := Nu.hid hbls
        have HBX := Nu.hid hbx
        have HL := Nu.hid hL
        have HON := Nu.hid hon
        have hbs := hbls.lt
        obtain ⟨g0, g1⟩ := hbx.cells
        obtain ⟨r0, r1⟩ := hbx.rcells
        have f0 := hbx.free 0
        have f1 := hbx.free 1
        have hsx := hbx.size
        have hsx0 : w.heap.size < wr.heap.size := by omega
        by_cases hlt : k < q
        · have hlti : (k : Int) < (q : Int) := by omega
          have hk0 : (0 : Int) ≤ (k : Int) := by omega
          have hkl : k < l.length := by rw [HQ.out]; exact hlt
          obtain ⟨x, hx⟩ : ∃ x, l[k]? = some x := ⟨_, List.getElem?_eq_getElem hkl⟩
          obtain ⟨b, o, rfl, c0⟩ := (HAT.out.later hbx.low) k x hx
          have hbl : b < wr.heap.size := block_lt_of_cell c0
          have HX := Nu.hid hx
          clear hon hx hbx
          by_cases hxi : 0 ≤ x ∧ x < (q : Int)
          · obtain ⟨xv, rfl⟩ : ∃ v : Nat, x = (v : Int) := ⟨x.toNat, by omega⟩
            have hx0 : (0 : Int) ≤ (xv : Int) := hxi.1
            have hx1 : (xv : Int) < (q : Int) := hxi.2
            have hd0 : decide ((xv : Int) < 0) = false := by simp
            have hd1 : decide ((q : Int) ≤ (xv : Int)) = false := by simp; omega
            have hd2 : decide (q ≤ xv) = false := by simp; omega
            obtain ⟨y, hy⟩ : ∃ y, L[xv]? = some y := ⟨_, List.getElem?_eq_getElem (by rw [hL, Ed.mks_length]; omega)⟩
            have hpa := Ed.mks_at (m := q) (l := l) (k := k) (by omega) (fun i z hi hz => (HON.out i z hi hz).1) xv y (by rw [← hL]; exact hy)
            have HPA := Nu.hid hpa
            have y0 := hbls.cell hy
            have HXI := Nu.hid hxi
            clear hpa hy hxi
            cases y with
            | true =>
              have HR : Hid (Ed.relabel (q : Int) es l = (0, [], 2)) := by
                show _ = _
                unfold Ed.relabel
                rw [if_neg (by rw [HV.out]; simp), if_pos]
                rintro ⟨h, _⟩
                obtain ⟨i, hi, e⟩ := HPA.out.1 rfl
                exact (Ed.once_iff.1 h k _ hkl HX.out).2 i hi e
              clear hbls hL
              go_wp2
              go_quiet (fail)
              have HBD : Hid (Bx1 w (q : Int) ao cap es (wr.drewN nq)) := ⟨below_drewN HBX.out.low _, HBX.out.box, HBX.out.res⟩
              clear g0 g1 r0 r1 f0 f1 c0 y0
              generalize wr.drewN nq = w4 at HBD ⊢
              obtain ⟨r0, r1⟩ := HBD.out.rcells
              have f0 := HBD.out.free 0
              have f1 := HBD.out.free 1
              go_wp2
              obtain ⟨hb, s0, s1⟩ := HBD.out.store (.int .i64 0) (.slice none 0 0)
              refine bodyPost_ret (v := .tuple #[.agg #[.int .i64 0, .slice none 0 0], .int .i64 2]) (by simp [results, Try.results23, go_sem, s0, s1]) rfl ?_
              rw [HR.out]
              exact ⟨_, rfl, OwnE.nil _ _, hb⟩
            | false =>
              have HNO : Hid (∀ j, j < k → l[j]? ≠ some (xv : Int)) := fun j hj e => by
                have := HPA.out.2 ⟨j, hj, e⟩
                cases this
              clear hL
              go_wp2
              go_quiet (fail)
              have HBD : Hid (Bx1 w (q : Int) ao cap es (wr.drewN nq)) := ⟨below_drewN HBX.out.low _, HBX.out.box, HBX.out.res⟩
              have HBLD : Hid (BlsBlk (wr.drewN nq) w1.heap.size L) := HBLS.out
              have c0' : (wr.drewN nq).cell? ⟨b, o + k, none⟩ = some (.int .i64 (xv : Int)) := c0
              have y0' : (wr.drewN nq).cell? ⟨w1.heap.size, xv, none⟩ = some (.bool false) := y0
              clear g0 g1 r0 r1 f0 f1 c0 y0 hbls
              generalize wr.drewN nq = w4 at HBD HBLD c0' y0' ⊢
              have yf := HBLD.out.free xv
              have HA2 := Nu.hid (HBLD.out.set xv true)
              have hs4 := HBD.out.size
              have HBX := HBD
              have HBX2 : Hid (Bx1 w (q : Int) ao cap es (w4.setCell ⟨w1.heap.size, xv, none⟩ (.bool true))) := ⟨HBX.out.low.setCell (by simp; omega) _, (heap_setCell_other _ ⟨w1.heap.size, xv, none⟩ _ _ (by simp; omega)).trans HBX.out.box, (heap_setCell_other _ ⟨w1.heap.size, xv, none⟩ _ _ (by simp; omega)).trans HBX.out.res⟩
              go_wp2
              go_roundw
              case rel =>
                refine ⟨k + 1, _, by omega, by go_num, ?_, HON.out.more HX.out HXI.out HNO.out, HA2.out, HBX2.out⟩
                have e : l.getD k 0 = (xv : Int) := by rw [List.getD_eq_getElem?_getD, HX.out]; rfl
                show _ = (Ed.mks q l k).set _ _
                rw [e, ← HL.out]
                rfl
              case measure => simp [intOf]; omega
          · have HR : Hid (Ed.relabel (q : Int) es l = (0, [], 2)) := by
              show _ = _
              unfold Ed.relabel
              rw [if_neg (by rw [HV.out]; simp), if_pos (fun h => hxi (h.1.1 x (List.mem_of_getElem? HX.out)))]
            clear hbls hL
            by_cases hxn : x < 0
            · have hd0 : decide (x < 0) = true := by simp [hxn]
              clear hxi hxn
              go_wp2
              go_quiet (fail)
              have HBD : Hid (Bx1 w (q : Int) ao cap es (wr.drewN nq)) := ⟨below_drewN HBX.out.low _, HBX.out.box, HBX.out.res⟩
              clear g0 g1 r0 r1 f0 f1 c0
              generalize wr.drewN nq = w4 at HBD ⊢
              obtain ⟨r0, r1⟩ := HBD.out.rcells
              have f0 := HBD.out.free 0
              have f1 := HBD.out.free 1
              go_wp2
              obtain ⟨hb, s0, s1⟩ := HBD.out.store (.int .i64 0) (.slice none 0 0)
              refine bodyPost_ret (v := .tuple #[.agg #[.int .i64 0, .slice none 0 0], .int .i64 2]) (by simp [results, Try.results23, go_sem, s0, s1]) rfl ?_
              rw [HR.out]
              exact ⟨_, rfl, OwnE.nil _ _, hb⟩
            · have hd0 : decide (x < 0) = false := by simp; omega
              have hd1 : decide ((q : Int) ≤ x) = true := by simp; omega
              clear hxi hxn
              go_wp2
              go_quiet (fail)
              have HBD : Hid (Bx1 w (q : Int) ao cap es (wr.drewN nq)) := ⟨below_drewN HBX.out.low _, HBX.out.box, HBX.out.res⟩
              clear g0 g1 r0 r1 f0 f1 c0
              generalize wr.drewN nq = w4 at HBD ⊢
              obtain ⟨r0, r1⟩ := HBD.out.rcells
              have f0 := HBD.out.free 0
              have f1 := HBD.out.free 1
              go_wp2
              obtain ⟨hb, s0, s1⟩ := HBD.out.store (.int .i64 0) (.slice none 0 0)
              refine bodyPost_ret (v := .tuple #[.agg #[.int .i64 0, .slice none 0 0], .int .i64 2]) (by simp [results, Try.results23, go_sem, s0, s1]) rfl ?_
              rw [HR.out]
              exact ⟨_, rfl, OwnE.nil _ _, hb⟩
        · have hd : ¬ ((k : Int) < (q : Int)) := by omega
          have hon2 : Ed.Once (q : Int) l := Ed.once_iff.2 (by rw [HQ.out]; rw [show k = q by omega] at hon; exact hon)
          have HR : Hid (Ed.relabel (q : Int) es l = ((q : Int), Ed.named l es, 0)) := by
            show _ = _
            unfold Ed.relabel
            rw [if_neg (by rw [HV.out]; simp), if_neg (fun h => h ⟨hon2, by rw [HQ.out]⟩)]
          have HRN : Hid (∀ W, Below w.heap.size w W → Calls Try.prog 47 #[.agg #[.int .i64 (q : Int), .slice ao es.length cap], .slice lo q lc] W fun e w' => ∃ v, e = .returned v ∧ OwnE w' W.heap.size v (Ed.named l es) ∧ Below W.heap.size W w') := fun W hb => rnamed_any (q : Int) lo lc q l ao cap es W (HE.out.later hb) hfew HQ.out (HAT.out.later hb) (Ed.val_fits HVAL.out (by rw [HQ.out])) (Ed.inj_once hon2) (Si.sorted_nodup (Ed.sorted_of_val HVAL.out))
          clear hbls hL hon hon2 hbx
          go_wp2
          go_region_held3 (fun w' => w'.cell? ⟨w.heap.size, 0, none⟩ = some (.int .i64 (q : Int)) ∧ w'.cell? ⟨w.heap.size, 1, none⟩ = some (.slice ao es.length cap))
            (first
          | (go_keep; done)
          | (go_split_ands
             (try dsimp only); (repeat' apply And.intro) <;> (refine (hb3.cell (p := ⟨_, _, none⟩) ?_).trans ?_ <;> first | assumption | (simp; omega)))
          | (go_split_ands
             (try dsimp only); (repeat' apply And.intro) <;> (refine (hb4.cell (p := ⟨_, _, none⟩) ?_).trans ?_ <;> first | assumption | (simp; omega)))
          | (go_split_ands; (try dsimp only); (repeat' apply And.intro) <;> (refine (cell_put2 ?_ _ _).trans ?_ <;> first | assumption | omega | (simp; done))))
            ((go_at_call 47; refine (HRN.out _ HBX.out.low.drew).mono ?_; rintro e w4 ⟨v, rfl, hown, hb3'⟩; have hb3 : Below wr.heap.size wr w4 := (Below.refl wr.heap.size wr).drew.trans hb3'; have hown2 : OwnE w4 w.heap.size v (Ed.named l es) := hown.lower (by simp; omega); obtain ⟨va, vc, rfl, -, -, -, -⟩ := hown.form; have HB4 := Nu.hid (HBX.out.later hb3); obtain ⟨r0, r1⟩ := HB4.out.rcells; have f0 := HB4.out.free 0; have f1 := HB4.out.free 1))
          have HOWN := Nu.hid hown2
          have HFAR := Nu.hid (hown.far (b := w.heap.size + 1) (by simp; omega))
          clear hown2 hown hb3 hb3'
          go_wp2
          obtain ⟨hb, s0, s1⟩ := HB4.out.store (.int .i64 (q : Int)) (.slice va (Ed.named l es).length vc)
          refine bodyPost_ret (v := .tuple #[.agg #[.int .i64 (q : Int), .slice va (Ed.named l es).length vc], .int .i64 0]) (by simp [results, Try.results23, go_sem, s0, s1]) rfl ?_
          rw [HR.out]
          exact ⟨_, rfl, own_put2 HOWN.out HFAR.out _ _, hb⟩
    · have hr : Ed.relabel (m : Int) es l = (0, [], 2) := by
        unfold Ed.relabel
        rw [if_neg (by rw [HV.out]; simp), if_pos]
        rintro ⟨_, h⟩
        rw [HQ.out] at h
        omega
      rw [hr]
      have hne : ((q : Int) != (m : Int)) = true := by simp; omega
      clear hr hqm hlo hhi hl
      go_enter Try.func23, Try.ntmps23
      go_wp2_with (go_at_call 33; refine (HVA.out _ HB0.out.low).mono ?_; rintro e w1 ⟨rfl, hb⟩; refine Hid.out ?_)
      refine Nu.hid ?_
      have HB1 := Nu.hid (HB0.out.later hb)
      clear hb
      obtain ⟨g0, g1⟩ := HB1.out.cells
      have hs1 := HB1.out.size
      have hs0 : w.heap.size < w1.heap.size := by omega
      obtain ⟨r0, r1⟩ := HB1.out.rcells
      have f0 := HB1.out.free 0
      have f1 := HB1.out.free 1
      go_wp2
      obtain ⟨hb, s0, s1⟩ := HB1.out.store (.int .i64 0) (.slice none 0 0)
      refine bodyPost_ret (v := .tuple #[.agg #[.int .i64 0, .slice none 0 0], .int .i64 2]) (by simp [results, Try.results23, go_sem, s0, s1]) rfl ?_
      exact ⟨_, rfl, OwnE.nil _ _, hb⟩

end Go.Proofs.Ytdkckdbpbdhoaaa
