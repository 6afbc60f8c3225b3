import Derived.Test.YtdkckdbpbdhoaaaEdW1
import Derived.Test.YtdkckdbpbdhoaaaEdCh
import Derived.Test.YtdkckdbpbdhoaaaMgB
import Derived.Test.YtdkckdbpbdhoaaaEdBx
import Derived.Test.YtdkckdbpbdhoaaaEdPl
import Derived.Test.YtdkckdbpbdhoaaaEdRn
/-
  The program's Apex.
-/
namespace Go.Proofs.Ytdkckdbpbdhoaaa
open Go.RowKit Go.Sort

set_option maxRecDepth 100000 in
set_option maxHeartbeats 8000000 in
theorem eapex_any (n : Int) (ao : Option Addr) (cap : Nat) (es : List (Int × Int)) (w : World) (he : EdgesAt w ao es) (hl : es.length ≤ 4611686018427387904) :
    Calls Try.prog 17 #[graphVal n ao es.length cap] w (AnsP (Ed.apex n es) w) := by
  have HE := Nu.hid he
  have hva := fun W (hb : Below w.heap.size w W) => valid_any n ao cap es W (he.later hb) hl
  have hB0 := Bx1.start (w := w) (n := n) (ao := ao) (cap := cap) (es := es)
  unfold graphVal at hva ⊢
  have HVA := Nu.hid hva
  have HB0 := Nu.hid hB0
  have HRF := Nu.hid refuse_any
  clear he hva hB0
  cases hv : Si.valid n es with
  | false =>
    have hr : Ed.apex n es = (0, [], 1) := by unfold Ed.apex; rw [if_pos hv]
    rw [hr]
    rw [hv] at HVA
    clear hv hr
    go_enter Try.func17, Try.ntmps17
    go_wp2_with (go_at_call 35; refine (HVA.out _ HB0.out.low).mono ?_; rintro e w1 ⟨rfl, hb⟩; refine Hid.out ?_)
    refine Nu.hid ?_
    have HB1 := Nu.hid (HB0.out.later hb)
    clear hb
    obtain ⟨g0, g1⟩ := HB1.out.cells
    have hs1 := HB1.out.size
    have hs0 : w.heap.size < w1.heap.size := by omega
    go_wp2_with (go_at_call 36; refine (HRF.out _ _).mono ?_; rintro e w2 ⟨rfl, hb⟩; have HB2 := Nu.hid (HB1.out.later hb); clear hb; obtain ⟨r0, r1⟩ := HB2.out.rcells; have f0 := HB2.out.free 0; have f1 := HB2.out.free 1)
    obtain ⟨hb, s0, s1⟩ := HB2.out.store (.int .i64 0) (.slice none 0 0)
    refine bodyPost_ret (v := .tuple #[.agg #[.int .i64 0, .slice none 0 0], .int .i64 1]) (by simp [results, Try.results17, go_sem, s0, s1]) rfl ?_
    exact ⟨_, rfl, OwnE.nil _ _, hb⟩
  | true =>
    have hval := Si.valid_iff.1 hv
    have hfew := hval.few
    have hlo := hval.lo
    have hhi := hval.hi
    have HVAL := Nu.hid hval
    have HV := Nu.hid hv
    rw [hv] at HVA
    clear hv hval
    obtain ⟨m, rfl⟩ : ∃ m : Nat, n = (m : Int) := ⟨n.toNat, by omega⟩
    by_cases hbn : (1048576 : Int) ≤ (m : Int)
    · have hr : Ed.apex (m : Int) es = (0, [], 141) := by
        unfold Ed.apex
        rw [if_neg (by rw [HV.out]; simp), if_pos (.inl hbn)]
      rw [hr]
      clear hr
      go_enter Try.func17, Try.ntmps17
      go_wp2_with (go_at_call 35; refine (HVA.out _ HB0.out.low).mono ?_; rintro e w1 ⟨rfl, hb⟩; refine Hid.out ?_)
      refine Nu.hid ?_
      have HB1 := Nu.hid (HB0.out.later hb)
      clear hb
      obtain ⟨g0, g1⟩ := HB1.out.cells
      have hs1 := HB1.out.size
      have hs0 : w.heap.size < w1.heap.size := by omega
      go_wp2_with (go_at_call 36; refine (HRF.out _ _).mono ?_; rintro e w2 ⟨rfl, hb⟩; have HB2 := Nu.hid (HB1.out.later hb); clear hb; obtain ⟨r0, r1⟩ := HB2.out.rcells; have f0 := HB2.out.free 0; have f1 := HB2.out.free 1)
      obtain ⟨hb, s0, s1⟩ := HB2.out.store (.int .i64 0) (.slice none 0 0)
      refine bodyPost_ret (v := .tuple #[.agg #[.int .i64 0, .slice none 0 0], .int .i64 141]) (by simp [results, Try.results17, go_sem, s0, s1]) rfl ?_
      exact ⟨_, rfl, OwnE.nil _ _, hb⟩
    by_cases hbe : (4194304 : Int) < (es.length : Int) + (m : Int)
    · have hr : Ed.apex (m : Int) es = (0, [], 141) := by
        unfold Ed.apex
        rw [if_neg (by rw [HV.out]; simp), if_pos (.inr hbe)]
      rw [hr]
      clear hr
      go_enter Try.func17, Try.ntmps17
      go_wp2_with (go_at_call 35; refine (HVA.out _ HB0.out.low).mono ?_; rintro e w1 ⟨rfl, hb⟩; refine Hid.out ?_)
      refine Nu.hid ?_
      have HB1 := Nu.hid (HB0.out.later hb)
      clear hb
      obtain ⟨g0, g1⟩ := HB1.out.cells
      have hs1 := HB1.out.size
      have hs0 : w.heap.size < w1.heap.size := by omega
      go_wp2_with (go_at_call 36; refine (HRF.out _ _).mono ?_; rintro e w2 ⟨rfl, hb⟩; have HB2 := Nu.hid (HB1.out.later hb); clear hb; obtain ⟨r0, r1⟩ := HB2.out.rcells; have f0 := HB2.out.free 0; have f1 := HB2.out.free 1)
      obtain ⟨hb, s0, s1⟩ := HB2.out.store (.int .i64 0) (.slice none 0 0)
      refine bodyPost_ret (v := .tuple #[.agg #[.int .i64 0, .slice none 0 0], .int .i64 141]) (by simp [results, Try.results17, go_sem, s0, s1]) rfl ?_
      exact ⟨_, rfl, OwnE.nil _ _, hb⟩
    have hr : Ed.apex (m : Int) es = ((m : Int) + 1, Ed.mrg es (Ed.sp (m : Int) m), 0) := by
      unfold Ed.apex
      rw [if_neg (by rw [HV.out]; simp), if_neg (by omega), Ed.mrg_sp HVAL.out]
      simp
    rw [hr]
    have hsl : (Ed.sp (m : Int) m).length = m := by simp [Ed.sp]
    have hpt := fun W (mb : Nat) (hb : Below w.heap.size w W) (hm : EdgesAt W (some ⟨mb, 0, none⟩) (Ed.sp (m : Int) m)) (hmb : mb < W.heap.size) => eput_any ao cap mb 0 m es (Ed.sp (m : Int) m) W (HE.out.later hb) hm (by omega) (by omega) (by omega) (by omega) hmb
    rw [hsl] at hpt
    have HPT := Nu.hid hpt
    have hspk := fun W => spokes_any m W (by omega)
    have HSPK := Nu.hid hspk
    have hbe' : decide ((4194304 : Int) < (es.length : Int) + (m : Int)) = false := by simp; omega
    have HBE := Nu.hid hbe
    have hmm : decide ((1048576 : Int) ≤ (m : Int)) = false := by simp; omega
    have hsum : IntKind.i64.wrap ((es.length : Int) + (m : Int)) = (es.length : Int) + (m : Int) := wrap_small _ (by omega) (by omega)
    have hsuc : IntKind.i64.wrap ((m : Int) + 1) = (m : Int) + 1 := wrap_small _ (by omega) (by omega)
    clear hpt hspk hr hsl hhi hlo hbe hbn hfew hl
    go_enter Try.func17, Try.ntmps17
    go_wp2_with (go_at_call 35; refine (HVA.out _ HB0.out.low).mono ?_; rintro e w1 ⟨rfl, hb⟩; refine Hid.out ?_)
    refine Nu.hid ?_
    have HB1 := Nu.hid (HB0.out.later hb)
    clear hb
    obtain ⟨g0, g1⟩ := HB1.out.cells
    have hs1 := HB1.out.size
    have hs0 : w.heap.size < w1.heap.size := by omega
    go_wp2
    go_region_held3 (fun w' => w'.cell? ⟨w.heap.size, 0, none⟩ = some (.int .i64 (m : Int)) ∧ w'.cell? ⟨w.heap.size, 1, none⟩ = some (.slice ao es.length cap))
      (first
          | (go_keep; done)
          | (go_split_ands
             (try dsimp only); (repeat' apply And.intro) <;> (refine (hb3.cell (p := ⟨_, _, none⟩) ?_).trans ?_ <;> first | assumption | (simp; omega)))
          | (go_split_ands
             (try dsimp only); (repeat' apply And.intro) <;> (refine (hb4.cell (p := ⟨_, _, none⟩) ?_).trans ?_ <;> first | assumption | (simp; omega)))
          | (go_split_ands; (try dsimp only); (repeat' apply And.intro) <;> (refine (cell_put2 ?_ _ _).trans ?_ <;> first | assumption | omega | (simp; done))))
      (first
        | (go_at_call 41; refine (HPT.out _ _ HB3.out.low hed hgl).mono ?_; rintro e w4 ⟨v, rfl, hown, hb4⟩; have hown2 : OwnE w4 w.heap.size v (Ed.mrg es (Ed.sp (m : Int) m)) := hown.lower (by have := HB3.out.size; omega); obtain ⟨va, vc, rfl, -, -, -, -⟩ := hown.form; have HB4 := Nu.hid (HB3.out.later hb4); obtain ⟨r0, r1⟩ := HB4.out.rcells; have f0 := HB4.out.free 0; have f1 := HB4.out.free 1)
        | (go_at_call 43; refine (HSPK.out _).mono ?_; rintro e w3 ⟨gg, rfl, heds, hgg, hb3'⟩; have hb3 : Below w1.heap.size w1 w3 := (Below.refl w1.heap.size w1).drew.trans hb3'; have HB3 := Nu.hid (HB1.out.later hb3); have hed := heds.at; have hgl := heds.lt; have hs3 := HB3.out.size))
    have HOWN := Nu.hid hown2
    have HFAR := Nu.hid (hown.far (b := w.heap.size + 1) (by omega))
    clear hown2 hown hb4 hb3 hb3' hed heds
    go_wp2
    obtain ⟨hb, s0, s1⟩ := HB4.out.store (.int .i64 ((m : Int) + 1)) (.slice va (Ed.mrg es (Ed.sp (m : Int) m)).length vc)
    refine bodyPost_ret (v := .tuple #[.agg #[.int .i64 ((m : Int) + 1), .slice va (Ed.mrg es (Ed.sp (m : Int) m)).length vc], .int .i64 0]) (by simp [results, Try.results17, go_sem, s0, s1]) rfl ?_
    exact ⟨_, rfl, own_put2 HOWN.out HFAR.out _ _, hb⟩

end Go.Proofs.Ytdkckdbpbdhoaaa

/-
  The program's Sub.
-/
namespace Go.Proofs.Ytdkckdbpbdhoaaa
open Go.RowKit Go.Sort

set_option maxRecDepth 100000 in
set_option maxHeartbeats 8000000 in
theorem esub_any (n : Int) (lo : Option Addr) (q lc : Nat) (l : List Int) (ao : Option Addr) (cap : Nat) (es : List (Int × Int)) (w : World) (he : EdgesAt w ao es) (hl : es.length ≤ 4611686018427387904) (hq : l.length = q) (hat : IntsAt w lo l) (hlq : q ≤ 4611686018427387904) :
    Calls Try.prog 20 #[graphVal n ao es.length cap, .slice lo q lc] w (AnsP (Ed.sub n es l) w) := by
  have HE := Nu.hid he
  have hva := fun W (hb : Below w.heap.size w W) => valid_any n ao cap es W (he.later hb) hl
  have hB0 := Bx1.start (w := w) (n := n) (ao := ao) (cap := cap) (es := es)
  unfold graphVal at hva ⊢
  have HVA := Nu.hid hva
  have HB0 := Nu.hid hB0
  have HRF := Nu.hid refuse_any
  have HAT := Nu.hid hat
  have HQ := Nu.hid hq
  clear he hva hB0 hat hq
  cases hv : Si.valid n es with
  | false =>
    have hr : Ed.sub n es l = (0, [], 1) := by unfold Ed.sub; rw [if_pos hv]
    rw [hr]
    rw [hv] at HVA
    clear hv hr
    go_enter Try.func20, Try.ntmps20
    go_wp2_with (go_at_call 35; refine (HVA.out _ HB0.out.low).mono ?_; rintro e w1 ⟨rfl, hb⟩; refine Hid.out ?_)
    refine Nu.hid ?_
    have HB1 := Nu.hid (HB0.out.later hb)
    clear hb
    obtain ⟨g0, g1⟩ := HB1.out.cells
    have hs1 := HB1.out.size
    have hs0 : w.heap.size < w1.heap.size := by omega
    go_wp2_with (go_at_call 36; refine (HRF.out _ _).mono ?_; rintro e w2 ⟨rfl, hb⟩; have HB2 := Nu.hid (HB1.out.later hb); clear hb; obtain ⟨r0, r1⟩ := HB2.out.rcells; have f0 := HB2.out.free 0; have f1 := HB2.out.free 1)
    obtain ⟨hb, s0, s1⟩ := HB2.out.store (.int .i64 0) (.slice none 0 0)
    refine bodyPost_ret (v := .tuple #[.agg #[.int .i64 0, .slice none 0 0], .int .i64 1]) (by simp [results, Try.results20, go_sem, s0, s1]) rfl ?_
    exact ⟨_, rfl, OwnE.nil _ _, hb⟩
  | true =>
    have hval := Si.valid_iff.1 hv
    have hfew := hval.few
    have hlo := hval.lo
    have hhi := hval.hi
    have HVAL := Nu.hid hval
    have HV := Nu.hid hv
    rw [hv] at HVA
    clear hv hval
    obtain ⟨i0, hi, hz0, hz1, hz2⟩ := info_parts Try.infoBoolE
    go_enter Try.func20, Try.ntmps20
    go_wp2_with (go_at_call 35; refine (HVA.out _ HB0.out.low).mono ?_; rintro e w1 ⟨rfl, hb⟩; refine Hid.out ?_)
    refine Nu.hid ?_
    have HB1 := Nu.hid (HB0.out.later hb)
    clear hb
    obtain ⟨g0, g1⟩ := HB1.out.cells
    have hs1 := HB1.out.size
    have hs0 : w.heap.size < w1.heap.size := by omega
    go_wp2_with (at_make; refine wpList_make_full _ rfl _ _ 68 rfl w1.heap.size 4 i0 (.bool false) 1 Try.underlying68 hi hz0 hz1 _ _ _ _ es.length rfl rfl rfl rfl (by rw [hz2]; omega) (by unfold maxLen; omega) (Nat.le_refl _) ?_; refine Hid.out ?_)
    refine Nu.hid ?_
    intro w3 hrow3 hg3
    have HBL : Hid (BlsBlk w3 w1.heap.size (List.replicate es.length false)) := by
      refine bls_of_row (B := w1.heap.size) (n := es.length) ?_
      rw [← made_bls]
      simpa using hrow3
    have hb3 : Below w1.heap.size w1 w3 := (Below.refl _ _).grown hg3 (Nat.le_refl _) (fun j hj => by cases hj)
    have HB3 := Nu.hid (HB1.out.later hb3)
    clear hrow3 hg3 hb3 g0 g1
    go_wp2
    go_loopw [21] (fun c wr => ∃ (k : Nat) (L : List Bool), k ≤ q ∧ c = .int .i64 k ∧ L = Ed.mks es.length l k ∧ (∀ (i : Nat) (x : Int), i < k → l[i]? = some x → 0 ≤ x ∧ x < (es.length : Int)) ∧ BlsBlk wr w1.heap.size L ∧ Bx1 w n ao cap es wr) (fun c _ => q - (intOf c).toNat)
    case atStart => exact ⟨0, _, Nat.zero_le _, rfl, rfl, fun i x h => by omega, HBL.out, HB3.out⟩
    case round =>
      obtain ⟨k, L, hk, rfl, hL, hin, hbls, hbx⟩ := hrel
      have HBLS := Nu.hid hbls
      have HBX := Nu.hid hbx
      have HL := Nu.hid hL
      have HIN := Nu.hid hin
      have hbs := hbls.lt
      obtain ⟨g0, g1⟩ := hbx.cells
      have hsx := hbx.size
      by_cases hlt : k < q
      · have hlti : (k : Int) < (q : Int) := by omega
        have hk0 : (0 : Int) ≤ (k : Int) := by omega
        have hkl : k < l.length := by rw [HQ.out]; exact hlt
        obtain ⟨x, hx⟩ : ∃ x, l[k]? = some x := ⟨_, List.getElem?_eq_getElem hkl⟩
        obtain ⟨b, o, rfl, c0⟩ := (HAT.out.later hbx.low) k x hx
        have hbl : b < wr.heap.size := block_lt_of_cell c0
        have HX := Nu.hid hx
        clear hin hx hbx
        by_cases hxi : 0 ≤ x ∧ x < (es.length : Int)
        · obtain ⟨xv, rfl⟩ : ∃ v : Nat, x = (v : Int) := ⟨x.toNat, by omega⟩
          have hx0 : (0 : Int) ≤ (xv : Int) := hxi.1
          have hx1 : (xv : Int) < (es.length : Int) := hxi.2
          obtain ⟨y, hy⟩ : ∃ y, L[xv]? = some y := ⟨_, List.getElem?_eq_getElem (by rw [hL, Ed.mks_length]; omega)⟩
          have y0 := hbls.cell hy
          have yf := hbls.free xv
          have HA2 := Nu.hid (hbls.set xv true)
          have HXI := Nu.hid hxi
          have HBX2 : Hid (Bx1 w n ao cap es (wr.setCell ⟨w1.heap.size, xv, none⟩ (.bool true))) :=
            ⟨HBX.out.low.setCell (by simp; omega) _, (heap_setCell_other _ ⟨w1.heap.size, xv, none⟩ _ _ (by simp; omega)).trans HBX.out.box, (heap_setCell_other _ ⟨w1.heap.size, xv, none⟩ _ _ (by simp; omega)).trans HBX.out.res⟩
          clear hbls hL hy hxi
          go_wp2_with (go_at_call 37; refine (isnum_yes hx0 hx1 _).mono ?_; rintro e w2 ⟨rfl, rfl⟩)
          go_roundw
          case rel =>
            refine ⟨k + 1, _, by omega, by go_num, ?_, fun i z hi hz => ?_, HA2.out, HBX2.out⟩
            · have e : l.getD k 0 = (xv : Int) := by rw [List.getD_eq_getElem?_getD, HX.out]; rfl
              show _ = (Ed.mks es.length l k).set _ _
              rw [e, ← HL.out]
              rfl
            · by_cases hik : i = k
              · subst hik
                rw [HX.out] at hz
                cases hz
                exact HXI.out
              · exact HIN.out i z (by omega) hz
          case measure => simp [intOf]; omega
        · have hr : Ed.sub n es l = (0, [], 2) := by
            unfold Ed.sub
            rw [if_neg (by rw [HV.out]; simp), if_pos (fun h => hxi (h x (List.mem_of_getElem? HX.out)))]
          have HR := Nu.hid hr
          have HOUT : Hid (x < 0 ∨ (es.length : Int) ≤ x) := Nu.hid (by omega)
          clear hbls hL hr hxi
          go_wp2_with (first
            | (go_at_call 37; refine (isnum_no HOUT.out _).mono ?_; rintro e w2 ⟨rfl, rfl⟩)
            | (go_at_call 36; refine (HRF.out _ _).mono ?_; rintro e w2 ⟨rfl, hb⟩; have HB2 := Nu.hid (HBX.out.later hb); clear hb; obtain ⟨r0, r1⟩ := HB2.out.rcells; have f0 := HB2.out.free 0; have f1 := HB2.out.free 1))
          obtain ⟨hb, s0, s1⟩ := HB2.out.store (.int .i64 0) (.slice none 0 0)
          refine bodyPost_ret (v := .tuple #[.agg #[.int .i64 0, .slice none 0 0], .int .i64 2]) (by simp [results, Try.results20, go_sem, s0, s1]) rfl ?_
          rw [HR.out]
          exact ⟨_, rfl, OwnE.nil _ _, hb⟩
      · have hd : ¬ ((k : Int) < (q : Int)) := by omega
        have hkq : k = l.length := by rw [HQ.out]; omega
        have hr : Ed.sub n es l = (n, Ed.sel L es, 0) := by
          unfold Ed.sub
          rw [if_neg (by rw [HV.out]; simp), if_neg, hL, hkq]
          · rfl
          · intro h
            refine h fun x hx => ?_
            obtain ⟨i, hi, e⟩ := List.mem_iff_getElem.1 hx
            exact hin i x (by omega) (by rw [← e]; exact List.getElem?_eq_getElem hi)
        have HR := Nu.hid hr
        have hll : L.length = es.length := by rw [hL, Ed.mks_length]
        have hch := fun W (hb : Below wr.heap.size wr W) => choose_any ao cap w1.heap.size es L W (HE.out.later (HBX.out.low.trans (hb.mono HBX.out.low.size))) hfew (HBLS.out.later hb) hll
        have HCH := Nu.hid hch
        clear hch hr hin hL hbls hbx hkq hll
        go_wp2
        go_region_held3 (fun w' => w'.cell? ⟨w.heap.size, 0, none⟩ = some (.int .i64 n) ∧ w'.cell? ⟨w.heap.size, 1, none⟩ = some (.slice ao es.length cap))
          (first
          | (go_keep; done)
          | (go_split_ands
             (try dsimp only); (repeat' apply And.intro) <;> (refine (hb3.cell (p := ⟨_, _, none⟩) ?_).trans ?_ <;> first | assumption | (simp; omega)))
          | (go_split_ands
             (try dsimp only); (repeat' apply And.intro) <;> (refine (hb4.cell (p := ⟨_, _, none⟩) ?_).trans ?_ <;> first | assumption | (simp; omega)))
          | (go_split_ands; (try dsimp only); (repeat' apply And.intro) <;> (refine (cell_put2 ?_ _ _).trans ?_ <;> first | assumption | omega | (simp; done))))
          ((go_at_call 44; refine (HCH.out _ (Below.refl _ _).drew).mono ?_; rintro e w3 ⟨v, rfl, hown, hb3'⟩; have hb3 : Below wr.heap.size wr w3 := (Below.refl wr.heap.size wr).drew.trans hb3'; have hown2 : OwnE w3 w.heap.size v (Ed.sel L es) := hown.lower (by simp; omega); obtain ⟨va, vc, rfl, -, -, -, -⟩ := hown.form; have HB3 := Nu.hid (HBX.out.later hb3); obtain ⟨r0, r1⟩ := HB3.out.rcells; have f0 := HB3.out.free 0; have f1 := HB3.out.free 1))
        have HOWN := Nu.hid hown2
        have HFAR := Nu.hid (hown.far (b := w.heap.size + 1) (by simp; omega))
        clear hown2 hown hb3 hb3'
        go_wp2
        obtain ⟨hb, s0, s1⟩ := HB3.out.store (.int .i64 n) (.slice va (Ed.sel L es).length vc)
        refine bodyPost_ret (v := .tuple #[.agg #[.int .i64 n, .slice va (Ed.sel L es).length vc], .int .i64 0]) (by simp [results, Try.results20, go_sem, s0, s1]) rfl ?_
        rw [HR.out]
        exact ⟨_, rfl, own_put2 HOWN.out HFAR.out _ _, hb⟩

end Go.Proofs.Ytdkckdbpbdhoaaa

/-
  The program's Beside.
-/
namespace Go.Proofs.Ytdkckdbpbdhoaaa
open Go.RowKit Go.Sort

set_option maxRecDepth 100000 in
set_option maxHeartbeats 8000000 in
theorem ebeside_any (n n' : Int) (ao ao' : Option Addr) (cap cap' : Nat) (es es' : List (Int × Int)) (w : World) (he : EdgesAt w ao es) (he' : EdgesAt w ao' es') (hl : es.length ≤ 4611686018427387904) (hl' : es'.length ≤ 4611686018427387904) :
    Calls Try.prog 29 #[graphVal n ao es.length cap, graphVal n' ao' es'.length cap'] w (AnsP (Ed.beside n es n' es') w) := by
  have HE := Nu.hid he
  have HE' := Nu.hid he'
  have hva := fun W (hb : Below w.heap.size w W) => valid_any n ao cap es W (he.later hb) hl
  have hvb := fun W (hb : Below w.heap.size w W) => valid_any n' ao' cap' es' W (he'.later hb) hl'
  have hB0 := Bx2.start (w := w) (n := n) (ao := ao) (cap := cap) (es := es) (x := .int .i64 n') (y := .slice ao' es'.length cap') (t := 24)
  unfold graphVal at hva hvb ⊢
  have HVA := Nu.hid hva
  have HVB := Nu.hid hvb
  have HB0 := Nu.hid hB0
  have HRF := Nu.hid refuse_any
  clear he he' hva hvb hB0
  cases hv : Si.valid n es with
  | false =>
    have hr : Ed.beside n es n' es' = (0, [], 1) := by unfold Ed.beside; rw [if_pos (.inl hv)]
    rw [hr]
    rw [hv] at HVA
    clear hv hr
    go_enter Try.func29, Try.ntmps29
    go_wp2_with (go_at_call 35; refine (HVA.out _ HB0.out.low).mono ?_; rintro e w1 ⟨rfl, hb⟩; refine Hid.out ?_)
    refine Nu.hid ?_
    have HB1 := Nu.hid (HB0.out.later hb)
    clear hb
    obtain ⟨g0, g1⟩ := HB1.out.cells
    obtain ⟨t0, t1⟩ := HB1.out.cells2
    have hs1 := HB1.out.size
    have hs0 : w.heap.size < w1.heap.size := by omega
    have hs01 : w.heap.size + 1 < w1.heap.size := by omega
    go_wp2_with (go_at_call 36; refine (HRF.out _ _).mono ?_; rintro e wz ⟨rfl, hb⟩; have HB2 := Nu.hid (HB1.out.later hb); clear hb; obtain ⟨r0, r1⟩ := HB2.out.rcells; have f0 := HB2.out.free 0; have f1 := HB2.out.free 1)
    obtain ⟨hb, s0, s1⟩ := HB2.out.store (.int .i64 0) (.slice none 0 0)
    refine bodyPost_ret (v := .tuple #[.agg #[.int .i64 0, .slice none 0 0], .int .i64 1]) (by simp [results, Try.results29, go_sem, s0, s1]) rfl ?_
    exact ⟨_, rfl, OwnE.nil _ _, hb⟩
  | true =>
  cases hv' : Si.valid n' es' with
  | false =>
    have hr : Ed.beside n es n' es' = (0, [], 1) := by unfold Ed.beside; rw [if_pos (.inr hv')]
    rw [hr]
    rw [hv] at HVA
    rw [hv'] at HVB
    clear hv hv' hr
    go_enter Try.func29, Try.ntmps29
    go_wp2_with (go_at_call 35; refine (HVA.out _ HB0.out.low).mono ?_; rintro e w1 ⟨rfl, hb⟩; refine Hid.out ?_)
    refine Nu.hid ?_
    have HB1 := Nu.hid (HB0.out.later hb)
    clear hb
    obtain ⟨g0, g1⟩ := HB1.out.cells
    obtain ⟨t0, t1⟩ := HB1.out.cells2
    have hs1 := HB1.out.size
    have hs0 : w.heap.size < w1.heap.size := by omega
    have hs01 : w.heap.size + 1 < w1.heap.size := by omega
    go_wp2_with (go_at_call 35; refine (HVB.out _ HB1.out.low).mono ?_; rintro e w2 ⟨rfl, hb⟩; refine Hid.out ?_)
    refine Nu.hid ?_
    have HB1 := Nu.hid (HB1.out.later hb)
    clear hb g0 g1 t0 t1 hs1 hs0 hs01
    obtain ⟨g0, g1⟩ := HB1.out.cells
    obtain ⟨t0, t1⟩ := HB1.out.cells2
    have hs1 := HB1.out.size
    have hs0 : w.heap.size < w2.heap.size := by omega
    have hs01 : w.heap.size + 1 < w2.heap.size := by omega
    go_wp2_with (go_at_call 36; refine (HRF.out _ _).mono ?_; rintro e wz ⟨rfl, hb⟩; have HB2 := Nu.hid (HB1.out.later hb); clear hb; obtain ⟨r0, r1⟩ := HB2.out.rcells; have f0 := HB2.out.free 0; have f1 := HB2.out.free 1)
    obtain ⟨hb, s0, s1⟩ := HB2.out.store (.int .i64 0) (.slice none 0 0)
    refine bodyPost_ret (v := .tuple #[.agg #[.int .i64 0, .slice none 0 0], .int .i64 1]) (by simp [results, Try.results29, go_sem, s0, s1]) rfl ?_
    exact ⟨_, rfl, OwnE.nil _ _, hb⟩
  | true =>
    have hval := Si.valid_iff.1 hv
    have hval' := Si.valid_iff.1 hv'
    have hfew := hval.few
    have hfew' := hval'.few
    have hlo := hval.lo
    have hhi := hval.hi
    have hlo' := hval'.lo
    have hhi' := hval'.hi
    have HVAL := Nu.hid hval
    have HVAL' := Nu.hid hval'
    have hno : ¬ (Si.valid n es = false ∨ Si.valid n' es' = false) := by rw [hv, hv']; simp
    have HNO := Nu.hid hno
    rw [hv] at HVA
    rw [hv'] at HVB
    have hsn : IntKind.i64.wrap (n + n') = n + n' := wrap_small _ (by omega) (by omega)
    have hse : IntKind.i64.wrap ((es.length : Int) + (es'.length : Int)) = (es.length : Int) + (es'.length : Int) := wrap_small _ (by omega) (by omega)
    clear hv hv' hval hval' hno hl hl'
    by_cases hbn : 1048576 < n + n'
    · have hr : Ed.beside n es n' es' = (0, [], 141) := by
        unfold Ed.beside
        rw [if_neg HNO.out, if_pos (.inl hbn)]
      rw [hr]
      have hbd : decide (1048576 < n + n') = true := by simp [hbn]
      clear hr hbn hlo hhi hlo' hhi' hfew hfew'
      go_enter Try.func29, Try.ntmps29
      go_wp2_with (go_at_call 35; refine (HVA.out _ HB0.out.low).mono ?_; rintro e w1 ⟨rfl, hb⟩; refine Hid.out ?_)
      refine Nu.hid ?_
      have HB1 := Nu.hid (HB0.out.later hb)
      clear hb
      obtain ⟨g0, g1⟩ := HB1.out.cells
      obtain ⟨t0, t1⟩ := HB1.out.cells2
      have hs1 := HB1.out.size
      have hs0 : w.heap.size < w1.heap.size := by omega
      have hs01 : w.heap.size + 1 < w1.heap.size := by omega
      go_wp2_with (go_at_call 35; refine (HVB.out _ HB1.out.low).mono ?_; rintro e w2 ⟨rfl, hb⟩; refine Hid.out ?_)
      refine Nu.hid ?_
      have HB1 := Nu.hid (HB1.out.later hb)
      clear hb g0 g1 t0 t1 hs1 hs0 hs01
      obtain ⟨g0, g1⟩ := HB1.out.cells
      obtain ⟨t0, t1⟩ := HB1.out.cells2
      have hs1 := HB1.out.size
      have hs0 : w.heap.size < w2.heap.size := by omega
      have hs01 : w.heap.size + 1 < w2.heap.size := by omega
      go_wp2_with (go_at_call 36; refine (HRF.out _ _).mono ?_; rintro e wz ⟨rfl, hb⟩; have HB2 := Nu.hid (HB1.out.later hb); clear hb; obtain ⟨r0, r1⟩ := HB2.out.rcells; have f0 := HB2.out.free 0; have f1 := HB2.out.free 1)
      obtain ⟨hb, s0, s1⟩ := HB2.out.store (.int .i64 0) (.slice none 0 0)
      refine bodyPost_ret (v := .tuple #[.agg #[.int .i64 0, .slice none 0 0], .int .i64 141]) (by simp [results, Try.results29, go_sem, s0, s1]) rfl ?_
      exact ⟨_, rfl, OwnE.nil _ _, hb⟩
    have hbd : decide (1048576 < n + n') = false := by simp; omega
    by_cases hbe : (4194304 : Int) < (es.length : Int) + (es'.length : Int)
    · have hr : Ed.beside n es n' es' = (0, [], 141) := by
        unfold Ed.beside
        rw [if_neg HNO.out, if_pos (.inr (by omega))]
      rw [hr]
      have hbf : decide ((4194304 : Int) < (es.length : Int) + (es'.length : Int)) = true := by simp; omega
      clear hr hbn hbe hlo hhi hlo' hhi' hfew hfew'
      go_enter Try.func29, Try.ntmps29
      go_wp2_with (go_at_call 35; refine (HVA.out _ HB0.out.low).mono ?_; rintro e w1 ⟨rfl, hb⟩; refine Hid.out ?_)
      refine Nu.hid ?_
      have HB1 := Nu.hid (HB0.out.later hb)
      clear hb
      obtain ⟨g0, g1⟩ := HB1.out.cells
      obtain ⟨t0, t1⟩ := HB1.out.cells2
      have hs1 := HB1.out.size
      have hs0 : w.heap.size < w1.heap.size := by omega
      have hs01 : w.heap.size + 1 < w1.heap.size := by omega
      go_wp2_with (go_at_call 35; refine (HVB.out _ HB1.out.low).mono ?_; rintro e w2 ⟨rfl, hb⟩; refine Hid.out ?_)
      refine Nu.hid ?_
      have HB1 := Nu.hid (HB1.out.later hb)
      clear hb g0 g1 t0 t1 hs1 hs0 hs01
      obtain ⟨g0, g1⟩ := HB1.out.cells
      obtain ⟨t0, t1⟩ := HB1.out.cells2
      have hs1 := HB1.out.size
      have hs0 : w.heap.size < w2.heap.size := by omega
      have hs01 : w.heap.size + 1 < w2.heap.size := by omega
      go_wp2_with (go_at_call 36; refine (HRF.out _ _).mono ?_; rintro e wz ⟨rfl, hb⟩; have HB2 := Nu.hid (HB1.out.later hb); clear hb; obtain ⟨r0, r1⟩ := HB2.out.rcells; have f0 := HB2.out.free 0; have f1 := HB2.out.free 1)
      obtain ⟨hb, s0, s1⟩ := HB2.out.store (.int .i64 0) (.slice none 0 0)
      refine bodyPost_ret (v := .tuple #[.agg #[.int .i64 0, .slice none 0 0], .int .i64 141]) (by simp [results, Try.results29, go_sem, s0, s1]) rfl ?_
      exact ⟨_, rfl, OwnE.nil _ _, hb⟩
    have hbf : decide ((4194304 : Int) < (es.length : Int) + (es'.length : Int)) = false := by simp; omega
    have hr : Ed.beside n es n' es' = (n + n', Ed.mrg es (Ed.sh n es'), 0) := by
      unfold Ed.beside
      rw [if_neg HNO.out, if_neg (by omega), Ed.mrg_sh HVAL.out HVAL'.out]
    rw [hr]
    have hsl := Ed.sh_length n es'
    have hpt := fun W (mb : Nat) (hb : Below w.heap.size w W) (hm : EdgesAt W (some ⟨mb, 0, none⟩) (Ed.sh n es')) (hmb : mb < W.heap.size) => eput_any ao cap mb 0 es'.length es (Ed.sh n es') W (HE.out.later hb) hm (by omega) (by omega) (by omega) (by omega) hmb
    rw [hsl] at hpt
    have HPT := Nu.hid hpt
    have hsf := fun W (hb : Below w.heap.size w W) => shift_any n ao' cap' es' W (HE'.out.later hb) hfew' ⟨hlo, hhi⟩ (fun j p hp => by
      have := HVAL'.out.each j p hp
      unfold Si.ok at this
      omega)
    have HSF := Nu.hid hsf
    clear hpt hsf hr hsl hbn hbe hlo hhi hlo' hhi' hfew hfew'
    go_enter Try.func29, Try.ntmps29
    go_wp2_with (go_at_call 35; refine (HVA.out _ HB0.out.low).mono ?_; rintro e w1 ⟨rfl, hb⟩; refine Hid.out ?_)
    refine Nu.hid ?_
    have HB1 := Nu.hid (HB0.out.later hb)
    clear hb
    obtain ⟨g0, g1⟩ := HB1.out.cells
    obtain ⟨t0, t1⟩ := HB1.out.cells2
    have hs1 := HB1.out.size
    have hs0 : w.heap.size < w1.heap.size := by omega
    have hs01 : w.heap.size + 1 < w1.heap.size := by omega
    go_wp2_with (go_at_call 35; refine (HVB.out _ HB1.out.low).mono ?_; rintro e w2 ⟨rfl, hb⟩; refine Hid.out ?_)
    refine Nu.hid ?_
    have HB1 := Nu.hid (HB1.out.later hb)
    clear hb g0 g1 t0 t1 hs1 hs0 hs01
    obtain ⟨g0, g1⟩ := HB1.out.cells
    obtain ⟨t0, t1⟩ := HB1.out.cells2
    have hs1 := HB1.out.size
    have hs0 : w.heap.size < w2.heap.size := by omega
    have hs01 : w.heap.size + 1 < w2.heap.size := by omega
    go_wp2
    go_region_held3 (fun w' => w'.cell? ⟨w.heap.size, 0, none⟩ = some (.int .i64 n) ∧ w'.cell? ⟨w.heap.size, 1, none⟩ = some (.slice ao es.length cap) ∧ w'.cell? ⟨w.heap.size + 1, 0, none⟩ = some (.int .i64 n') ∧ w'.cell? ⟨w.heap.size + 1, 1, none⟩ = some (.slice ao' es'.length cap'))
      (first
          | (go_keep; done)
          | (go_split_ands
             (try dsimp only); (repeat' apply And.intro) <;> (refine (hb3.cell (p := ⟨_, _, none⟩) ?_).trans ?_ <;> first | assumption | (simp; omega)))
          | (go_split_ands
             (try dsimp only); (repeat' apply And.intro) <;> (refine (hb4.cell (p := ⟨_, _, none⟩) ?_).trans ?_ <;> first | assumption | (simp; omega)))
          | (go_split_ands; (try dsimp only); (repeat' apply And.intro) <;> (refine (cell_put2 ?_ _ _).trans ?_ <;> first | assumption | omega | (simp; done))))
      (first
        | (go_at_call 41; refine (HPT.out _ _ HB3.out.low hed hgl).mono ?_; rintro e w4 ⟨v, rfl, hown, hb4⟩; have hown2 : OwnE w4 w.heap.size v (Ed.mrg es (Ed.sh n es')) := hown.lower (by have := HB3.out.size; omega); obtain ⟨va, vc, rfl, -, -, -, -⟩ := hown.form; have HB4 := Nu.hid (HB3.out.later hb4); obtain ⟨r0, r1⟩ := HB4.out.rcells; have f0 := HB4.out.free 0; have f1 := HB4.out.free 1)
        | (go_at_call 49; refine (HSF.out _ HB1.out.low.drew).mono ?_; rintro e w3 ⟨gg, rfl, heds, hgg, hb3'⟩; have hb3 : Below w2.heap.size w2 w3 := (Below.refl w2.heap.size w2).drew.trans hb3'; have HB3 := Nu.hid (HB1.out.later hb3); have hed := heds.at; have hgl := heds.lt; have hs3 := HB3.out.size))
    have HOWN := Nu.hid hown2
    have HFAR := Nu.hid (hown.far (b := w.heap.size + 2) (by omega))
    clear hown2 hown hb4 hb3 hb3' hed heds
    go_wp2
    obtain ⟨hb, s0, s1⟩ := HB4.out.store (.int .i64 (n + n')) (.slice va (Ed.mrg es (Ed.sh n es')).length vc)
    refine bodyPost_ret (v := .tuple #[.agg #[.int .i64 (n + n'), .slice va (Ed.mrg es (Ed.sh n es')).length vc], .int .i64 0]) (by simp [results, Try.results29, go_sem, s0, s1]) rfl ?_
    exact ⟨_, rfl, own_put2 HOWN.out HFAR.out _ _, hb⟩

end Go.Proofs.Ytdkckdbpbdhoaaa

/-
  The program's Relabel.
-/
namespace Go.Proofs.Ytdkckdbpbdhoaaa
open Go.RowKit Go.Sort

theorem Ed.inj_of {n : Int} {l : List Int} (h : Ed.Once n l) : Ed.Inj l := by
  intro i j x hi hj _
  obtain ⟨a, ea⟩ := List.getElem?_eq_some_iff.1 hi
  obtain ⟨b, eb⟩ := List.getElem?_eq_some_iff.1 hj
  exact (List.getElem_inj h.2).1 (ea.trans eb.symm)

set_option maxRecDepth 100000 in
set_option maxHeartbeats 8000000 in
theorem erelabel_any (n : Int) (lo : Option Addr) (q lc : Nat) (l : List Int) (ao : Option Addr) (cap : Nat) (es : List (Int × Int)) (w : World) (he : EdgesAt w ao es) (hl : es.length ≤ 4611686018427387904) (hq : l.length = q) (hat : IntsAt w lo l) (hlq : q ≤ 4611686018427387904) :
    Calls Try.prog 22 #[graphVal n ao es.length cap, .slice lo q lc] w (AnsP (Ed.relabel n es l) w) := by
  have HE := Nu.hid he
  have hva := fun W (hb : Below w.heap.size w W) => valid_any n ao cap es W (he.later hb) hl
  have hB0 := Bx1.start (w := w) (n := n) (ao := ao) (cap := cap) (es := es)
  unfold graphVal at hva ⊢
  have HVA := Nu.hid hva
  have HB0 := Nu.hid hB0
  have HRF := Nu.hid refuse_any
  have HAT := Nu.hid hat
  have HQ := Nu.hid hq
  clear he hva hB0 hat hq
  cases hv : Si.valid n es with
  | false =>
    have hr : Ed.relabel n es l = (0, [], 1) := by unfold Ed.relabel; rw [if_pos hv]
    rw [hr]
    rw [hv] at HVA
    clear hv hr
    go_enter Try.func22, Try.ntmps22
    go_wp2_with (go_at_call 35; refine (HVA.out _ HB0.out.low).mono ?_; rintro e w1 ⟨rfl, hb⟩; refine Hid.out ?_)
    refine Nu.hid ?_
    have HB1 := Nu.hid (HB0.out.later hb)
    clear hb
    obtain ⟨g0, g1⟩ := HB1.out.cells
    have hs1 := HB1.out.size
    have hs0 : w.heap.size < w1.heap.size := by omega
    go_wp2_with (go_at_call 36; refine (HRF.out _ _).mono ?_; rintro e w2 ⟨rfl, hb⟩; have HB2 := Nu.hid (HB1.out.later hb); clear hb; obtain ⟨r0, r1⟩ := HB2.out.rcells; have f0 := HB2.out.free 0; have f1 := HB2.out.free 1)
    obtain ⟨hb, s0, s1⟩ := HB2.out.store (.int .i64 0) (.slice none 0 0)
    refine bodyPost_ret (v := .tuple #[.agg #[.int .i64 0, .slice none 0 0], .int .i64 1]) (by simp [results, Try.results22, go_sem, s0, s1]) rfl ?_
    exact ⟨_, rfl, OwnE.nil _ _, hb⟩
  | true =>
    have hval := Si.valid_iff.1 hv
    have hfew := hval.few
    have hlo := hval.lo
    have hhi := hval.hi
    have HVAL := Nu.hid hval
    have HV := Nu.hid hv
    rw [hv] at HVA
    clear hv hval
    obtain ⟨m, rfl⟩ : ∃ m : Nat, n = (m : Int) := ⟨n.toNat, by omega⟩
    have hpl := fun W (hb : Below w.heap.size w W) => places_any m lo q lc l W HQ.out (HAT.out.later hb) (by omega) hlq
    unfold PlacesPost at hpl
    have HPL := Nu.hid hpl
    clear hpl hhi hlo
    go_enter Try.func22, Try.ntmps22
    go_wp2_with (go_at_call 35; refine (HVA.out _ HB0.out.low).mono ?_; rintro e w1 ⟨rfl, hb⟩; refine Hid.out ?_)
    refine Nu.hid ?_
    have HB1 := Nu.hid (HB0.out.later hb)
    clear hb
    obtain ⟨g0, g1⟩ := HB1.out.cells
    have hs1 := HB1.out.size
    have hs0 : w.heap.size < w1.heap.size := by omega
    go_wp2_with (go_at_call 45; refine (HPL.out _ HB1.out.low).mono ?_; refine Hid.out ?_)
    refine Nu.hid ?_
    rintro e w2 ⟨hpp, hb⟩
    have HB1 := Nu.hid (HB1.out.later hb)
    clear hb g0 g1 hs1 hs0
    obtain ⟨g0, g1⟩ := HB1.out.cells
    have hs1 := HB1.out.size
    have hs0 : w.heap.size < w2.heap.size := by omega
    rcases hpp with ⟨hon, g, rfl, hib, hgg⟩ | ⟨hno, rfl⟩
    · have HON := Nu.hid hon
      clear hib hgg hon
      by_cases hqm : q = m
      · have hr : Ed.relabel (m : Int) es l = ((m : Int), Ed.named l es, 0) := by
          unfold Ed.relabel
          rw [if_neg (by rw [HV.out]; simp), if_neg]
          intro h
          exact h ⟨HON.out, by rw [HQ.out, hqm]⟩
        have HR := Nu.hid hr
        have hne : ((q : Int) != (m : Int)) = false := by simp [hqm]
        have hrn := fun W (hb : Below w.heap.size w W) => rename_any lo lc q l ao cap es W (HE.out.later hb) hfew HQ.out (HAT.out.later hb) (Ed.val_fits HVAL.out (by rw [HQ.out, hqm])) (Ed.inj_of HON.out) (Si.sorted_nodup (Ed.sorted_of_val HVAL.out)) (fun x hx => by have := HON.out.1 x hx; omega)
        have HRN := Nu.hid hrn
        clear hrn hr hqm
        go_wp2
        go_region_held3 (fun w' => w'.cell? ⟨w.heap.size, 0, none⟩ = some (.int .i64 (m : Int)) ∧ w'.cell? ⟨w.heap.size, 1, none⟩ = some (.slice ao es.length cap))
          (first
          | (go_keep; done)
          | (go_split_ands
             (try dsimp only); (repeat' apply And.intro) <;> (refine (hb3.cell (p := ⟨_, _, none⟩) ?_).trans ?_ <;> first | assumption | (simp; omega)))
          | (go_split_ands
             (try dsimp only); (repeat' apply And.intro) <;> (refine (hb4.cell (p := ⟨_, _, none⟩) ?_).trans ?_ <;> first | assumption | (simp; omega)))
          | (go_split_ands; (try dsimp only); (repeat' apply And.intro) <;> (refine (cell_put2 ?_ _ _).trans ?_ <;> first | assumption | omega | (simp; done))))
          ((go_at_call 46; refine (HRN.out _ HB1.out.low.drew).mono ?_; rintro e w3 ⟨v, rfl, hown, hb3'⟩; have hb3 : Below w2.heap.size w2 w3 := (Below.refl w2.heap.size w2).drew.trans hb3'; have hown2 : OwnE w3 w.heap.size v (Ed.named l es) := hown.lower (by have := HB1.out.size; simp; omega); obtain ⟨va, vc, rfl, -, -, -, -⟩ := hown.form; have HB3 := Nu.hid (HB1.out.later hb3); obtain ⟨r0, r1⟩ := HB3.out.rcells; have f0 := HB3.out.free 0; have f1 := HB3.out.free 1))
        have HOWN := Nu.hid hown2
        have HFAR := Nu.hid (hown.far (b := w.heap.size + 1) (by simp; omega))
        clear hown2 hown hb3 hb3'
        go_wp2
        obtain ⟨hb, s0, s1⟩ := HB3.out.store (.int .i64 (m : Int)) (.slice va (Ed.named l es).length vc)
        refine bodyPost_ret (v := .tuple #[.agg #[.int .i64 (m : Int), .slice va (Ed.named l es).length vc], .int .i64 0]) (by simp [results, Try.results22, go_sem, s0, s1]) rfl ?_
        rw [HR.out]
        exact ⟨_, rfl, own_put2 HOWN.out HFAR.out _ _, hb⟩
      · have hr : Ed.relabel (m : Int) es l = (0, [], 2) := by
          unfold Ed.relabel
          rw [if_neg (by rw [HV.out]; simp), if_pos]
          intro h
          have := h.2
          rw [HQ.out] at this
          omega
        have HR := Nu.hid hr
        have hne : ((q : Int) != (m : Int)) = true := by simp; omega
        clear hr hqm
        go_wp2_with (go_at_call 36; refine (HRF.out _ _).mono ?_; rintro e wz ⟨rfl, hb⟩; have HB2 := Nu.hid (HB1.out.later hb); clear hb; obtain ⟨r0, r1⟩ := HB2.out.rcells; have f0 := HB2.out.free 0; have f1 := HB2.out.free 1)
        obtain ⟨hb, s0, s1⟩ := HB2.out.store (.int .i64 0) (.slice none 0 0)
        refine bodyPost_ret (v := .tuple #[.agg #[.int .i64 0, .slice none 0 0], .int .i64 2]) (by simp [results, Try.results22, go_sem, s0, s1]) rfl ?_
        rw [HR.out]
        exact ⟨_, rfl, OwnE.nil _ _, hb⟩
    · have hr : Ed.relabel (m : Int) es l = (0, [], 2) := by
        unfold Ed.relabel
        rw [if_neg (by rw [HV.out]; simp), if_pos (fun h => hno h.1)]
      have HR := Nu.hid hr
      clear hr hno
      go_wp2_with (go_at_call 36; refine (HRF.out _ _).mono ?_; rintro e wz ⟨rfl, hb⟩; have HB2 := Nu.hid (HB1.out.later hb); clear hb; obtain ⟨r0, r1⟩ := HB2.out.rcells; have f0 := HB2.out.free 0; have f1 := HB2.out.free 1)
      obtain ⟨hb, s0, s1⟩ := HB2.out.store (.int .i64 0) (.slice none 0 0)
      refine bodyPost_ret (v := .tuple #[.agg #[.int .i64 0, .slice none 0 0], .int .i64 2]) (by simp [results, Try.results22, go_sem, s0, s1]) rfl ?_
      rw [HR.out]
      exact ⟨_, rfl, OwnE.nil _ _, hb⟩

end Go.Proofs.Ytdkckdbpbdhoaaa

/-
  The program's Induced.
-/
namespace Go.Proofs.Ytdkckdbpbdhoaaa
open Go.RowKit Go.Sort

set_option maxRecDepth 100000 in
set_option maxHeartbeats 8000000 in
theorem einduced_any (n : Int) (lo : Option Addr) (q lc : Nat) (l : List Int) (ao : Option Addr) (cap : Nat) (es : List (Int × Int)) (w : World) (he : EdgesAt w ao es) (hl : es.length ≤ 4611686018427387904) (hq : l.length = q) (hat : IntsAt w lo l) (hlq : q ≤ 4611686018427387904) :
    Calls Try.prog 24 #[graphVal n ao es.length cap, .slice lo q lc] w (AnsP (Ed.induced n es l) w) := by
  have HE := Nu.hid he
  have hva := fun W (hb : Below w.heap.size w W) => valid_any n ao cap es W (he.later hb) hl
  have hB0 := Bx1.start (w := w) (n := n) (ao := ao) (cap := cap) (es := es)
  unfold graphVal at hva ⊢
  have HVA := Nu.hid hva
  have HB0 := Nu.hid hB0
  have HRF := Nu.hid refuse_any
  have HAT := Nu.hid hat
  have HQ := Nu.hid hq
  clear he hva hB0 hat hq
  cases hv : Si.valid n es with
  | false =>
    have hr : Ed.induced n es l = (0, [], 1) := by unfold Ed.induced; rw [if_pos hv]
    rw [hr]
    rw [hv] at HVA
    clear hv hr
    go_enter Try.func24, Try.ntmps24
    go_wp2_with (go_at_call 35; refine (HVA.out _ HB0.out.low).mono ?_; rintro e w1 ⟨rfl, hb⟩; refine Hid.out ?_)
    refine Nu.hid ?_
    have HB1 := Nu.hid (HB0.out.later hb)
    clear hb
    obtain ⟨g0, g1⟩ := HB1.out.cells
    have hs1 := HB1.out.size
    have hs0 : w.heap.size < w1.heap.size := by omega
    go_wp2_with (go_at_call 36; refine (HRF.out _ _).mono ?_; rintro e w2 ⟨rfl, hb⟩; have HB2 := Nu.hid (HB1.out.later hb); clear hb; obtain ⟨r0, r1⟩ := HB2.out.rcells; have f0 := HB2.out.free 0; have f1 := HB2.out.free 1)
    obtain ⟨hb, s0, s1⟩ := HB2.out.store (.int .i64 0) (.slice none 0 0)
    refine bodyPost_ret (v := .tuple #[.agg #[.int .i64 0, .slice none 0 0], .int .i64 1]) (by simp [results, Try.results24, go_sem, s0, s1]) rfl ?_
    exact ⟨_, rfl, OwnE.nil _ _, hb⟩
  | true =>
    have hval := Si.valid_iff.1 hv
    have hfew := hval.few
    have hlo := hval.lo
    have hhi := hval.hi
    have HVAL := Nu.hid hval
    have HV := Nu.hid hv
    rw [hv] at HVA
    clear hv hval
    obtain ⟨m, rfl⟩ : ∃ m : Nat, n = (m : Int) := ⟨n.toNat, by omega⟩
    have hpl := fun W (hb : Below w.heap.size w W) => places_any m lo q lc l W HQ.out (HAT.out.later hb) (by omega) hlq
    unfold PlacesPost at hpl
    have HPL := Nu.hid hpl
    clear hpl hhi hlo
    go_enter Try.func24, Try.ntmps24
    go_wp2_with (go_at_call 35; refine (HVA.out _ HB0.out.low).mono ?_; rintro e w1 ⟨rfl, hb⟩; refine Hid.out ?_)
    refine Nu.hid ?_
    have HB1 := Nu.hid (HB0.out.later hb)
    clear hb
    obtain ⟨g0, g1⟩ := HB1.out.cells
    have hs1 := HB1.out.size
    have hs0 : w.heap.size < w1.heap.size := by omega
    go_wp2_with (go_at_call 45; refine (HPL.out _ HB1.out.low).mono ?_; refine Hid.out ?_)
    refine Nu.hid ?_
    rintro e w2 ⟨hpp, hb⟩
    have HB1 := Nu.hid (HB1.out.later hb)
    clear hb g0 g1 hs1 hs0
    obtain ⟨g0, g1⟩ := HB1.out.cells
    have hs1 := HB1.out.size
    have hs0 : w.heap.size < w2.heap.size := by omega
    rcases hpp with ⟨hon, g, rfl, hib, hgg⟩ | ⟨hno, rfl⟩
    · have HON := Nu.hid hon
      have HIB := Nu.hid hib
      have hr : Ed.induced (m : Int) es l = ((q : Int), Ed.named (Ed.pl m l) es, 0) := by
        unfold Ed.induced
        rw [if_neg (by rw [HV.out]; simp), if_neg (fun h => h hon), HQ.out, Int.toNat_natCast]
      have HR := Nu.hid hr
      have hrn := rename_any (some ⟨g, 0, none⟩) m m (Ed.pl m l) ao cap es w2 (HE.out.later HB1.out.low) hfew (Ed.pl_length _ _) hib.at (Ed.val_fits HVAL.out (by rw [Ed.pl_length])) (Ed.pl_inj hon) (Si.sorted_nodup (Ed.sorted_of_val HVAL.out)) (fun x hx => by
        obtain ⟨i, hi, e⟩ := List.mem_iff_getElem.1 hx
        rcases Ed.pl_at hon (v := i) (x := x) (by rw [← e]; exact List.getElem?_eq_getElem hi) with ⟨h, _⟩ | ⟨j, h, _⟩ <;> omega)
      have HRN := Nu.hid hrn
      clear hrn hr hon hib hgg
      go_wp2_with (go_at_call 46; refine HRN.out.mono ?_; rintro e w3 ⟨v, rfl, hown, hb3⟩; have hown2 : OwnE w3 w.heap.size v (Ed.named (Ed.pl m l) es) := hown.lower (by omega); obtain ⟨va, vc, rfl, -, -, -, -⟩ := hown.form; have HB3 := Nu.hid (HB1.out.later hb3); obtain ⟨r0, r1⟩ := HB3.out.rcells; have f0 := HB3.out.free 0; have f1 := HB3.out.free 1; have HOWN := Nu.hid hown2; have HFAR := Nu.hid (hown.far (b := w.heap.size + 1) (by omega)); clear hown2 hown hb3)
      obtain ⟨hb, s0, s1⟩ := HB3.out.store (.int .i64 (q : Int)) (.slice va (Ed.named (Ed.pl m l) es).length vc)
      refine bodyPost_ret (v := .tuple #[.agg #[.int .i64 (q : Int), .slice va (Ed.named (Ed.pl m l) es).length vc], .int .i64 0]) (by simp [results, Try.results24, go_sem, s0, s1]) rfl ?_
      rw [HR.out]
      exact ⟨_, rfl, own_put2 HOWN.out HFAR.out _ _, hb⟩
    · have hr : Ed.induced (m : Int) es l = (0, [], 2) := by
        unfold Ed.induced
        rw [if_neg (by rw [HV.out]; simp), if_pos hno]
      have HR := Nu.hid hr
      clear hr hno
      go_wp2_with (go_at_call 36; refine (HRF.out _ _).mono ?_; rintro e wz ⟨rfl, hb⟩; have HB2 := Nu.hid (HB1.out.later hb); clear hb; obtain ⟨r0, r1⟩ := HB2.out.rcells; have f0 := HB2.out.free 0; have f1 := HB2.out.free 1)
      obtain ⟨hb, s0, s1⟩ := HB2.out.store (.int .i64 0) (.slice none 0 0)
      refine bodyPost_ret (v := .tuple #[.agg #[.int .i64 0, .slice none 0 0], .int .i64 2]) (by simp [results, Try.results24, go_sem, s0, s1]) rfl ?_
      rw [HR.out]
      exact ⟨_, rfl, OwnE.nil _ _, hb⟩

end Go.Proofs.Ytdkckdbpbdhoaaa
