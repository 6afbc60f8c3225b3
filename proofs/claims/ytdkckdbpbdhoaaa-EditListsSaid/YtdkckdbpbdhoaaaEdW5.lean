/-
  The program's Sub.
-/
import Derived.Test.YtdkckdbpbdhoaaaEdW1
import Derived.Test.YtdkckdbpbdhoaaaEdCh
import Derived.Test.YtdkckdbpbdhoaaaMgB
namespace Go.Proofs.Ytdkckdbpbdhoaaa
open Go.RowKit Go.Sort

set_option maxRecDepth 100000 in
set_option maxHeartbeats 8000000 in
theorem esub_any (n : Int) (lo : Option Addr) (q lc : Nat) (l : List Int) (ao : Option Addr) (cap : Nat) (es : List (Int × Int)) (w : World) (he : EdgesAt w ao es) (hl : es.length ≤ 4611686018427387904) (hq : l.length = q) (hat : IntsAt w lo l) (hlq : q ≤ 4611686018427387904) :
    Calls Try.prog 20 #[graphVal n ao es.length cap, .slice lo q lc] w (AnsP (Ed.sub n es l) w) := by
  have HE := Nu.hid he
  have hva := fun W (hb : Below w.heap.size w W) => valid_any n ao cap es W (he.later hb) hl
  have hB0 := Bx1.start (w := w) (n := n) (ao := ao) (cap := cap) (es := es)
  unfold graphVal at hva ⊢
  have HVA := Nu.hid hva
  have HB0 := Nu.hid hB0
  have HRF := Nu.hid refuse_any
  have HAT := Nu.hid hat
  have HQ := Nu.hid hq
  clear he hva hB0 hat hq
  cases hv : Si.valid n es with
  | false =>
    have hr : Ed.sub n es l = (0, [], 1) := by unfold Ed.sub; rw [if_pos hv]
    rw [hr]
    rw [hv] at HVA
    clear hv hr
    go_enter Try.func20, Try.ntmps20
    go_wp2_with (go_at_call 35; refine (HVA.out _ HB0.out.low).mono ?_; rintro e w1 ⟨rfl, hb⟩; refine Hid.out ?_)
    refine Nu.hid ?_
    have HB1 := Nu.hid (HB0.out.later hb)
    clear hb
    obtain ⟨g0, g1⟩ := HB1.out.cells
    have hs1 := HB1.out.size
    have hs0 : w.heap.size < w1.heap.size := by omega
    go_wp2_with (go_at_call 36; refine (HRF.out _ _).mono ?_; rintro e w2 ⟨rfl, hb⟩; have HB2 := Nu.hid (HB1.out.later hb); clear hb; obtain ⟨r0, r1⟩ := HB2.out.rcells; have f0 := HB2.out.free 0; have f1 := HB2.out.free 1)
    obtain ⟨hb, s0, s1⟩ := HB2.out.store (.int .i64 0) (.slice none 0 0)
    refine bodyPost_ret (v := .tuple #[.agg #[.int .i64 0, .slice none 0 0], .int .i64 1]) (by simp [results, Try.results20, go_sem, s0, s1]) rfl ?_
    exact ⟨_, rfl, OwnE.nil _ _, hb⟩
  | true =>
    have hval := Si.valid_iff.1 hv
    have hfew := hval.few
    have hlo := hval.lo
    have hhi := hval.hi
    have HVAL := Nu.hid hval
    have HV := Nu.hid hv
    rw [hv] at HVA
    clear hv hval
    obtain ⟨i0, hi, hz0, hz1, hz2⟩ := info_parts Try.infoBoolE
    go_enter Try.func20, Try.ntmps20
    go_wp2_with (go_at_call 35; refine (HVA.out _ HB0.out.low).mono ?_; rintro e w1 ⟨rfl, hb⟩; refine Hid.out ?_)
    refine Nu.hid ?_
    have HB1 := Nu.hid (HB0.out.later hb)
    clear hb
    obtain ⟨g0, g1⟩ := HB1.out.cells
    have hs1 := HB1.out.size
    have hs0 : w.heap.size < w1.heap.size := by omega
    go_wp2_with (at_make; refine wpList_make_full _ rfl _ _ 68 rfl w1.heap.size 4 i0 (.bool false) 1 Try.underlying68 hi hz0 hz1 _ _ _ _ es.length rfl rfl rfl rfl (by rw [hz2]; omega) (by unfold maxLen; omega) (Nat.le_refl _) ?_; refine Hid.out ?_)
    refine Nu.hid ?_
    intro w3 hrow3 hg3
    have HBL : Hid (BlsBlk w3 w1.heap.size (List.replicate es.length false)) := by
      refine bls_of_row (B := w1.heap.size) (n := es.length) ?_
      rw [← made_bls]
      simpa using hrow3
    have hb3 : Below w1.heap.size w1 w3 := (Below.refl _ _).grown hg3 (Nat.le_refl _) (fun j hj => by cases hj)
    have HB3 := Nu.hid (HB1.out.later hb3)
    clear hrow3 hg3 hb3 g0 g1
    go_wp2
    go_loopw [21] (fun c wr => ∃ (k : Nat) (L : List Bool), k ≤ q ∧ c = .int .i64 k ∧ L = Ed.mks es.length l k ∧ (∀ (i : Nat) (x : Int), i < k → l[i]? = some x → 0 ≤ x ∧ x < (es.length : Int)) ∧ BlsBlk wr w1.heap.size L ∧ Bx1 w n ao cap es wr) (fun c _ => q - (intOf c).toNat)
    case atStart => exact ⟨0, _, Nat.zero_le _, rfl, rfl, fun i x h => by omega, HBL.out, HB3.out⟩
    case round =>
      obtain ⟨k, L, hk, rfl, hL, hin, hbls, hbx⟩ := hrel
      have HBLS := Nu.hid hbls
      have HBX := Nu.hid hbx
      have HL := Nu.hid hL
      have HIN := Nu.hid hin
      have hbs := hbls.lt
      obtain ⟨g0, g1⟩ := hbx.cells
      have hsx := hbx.size
      by_cases hlt : k < q
      · have hlti : (k : Int) < (q : Int) := by omega
        have hk0 : (0 : Int) ≤ (k : Int) := by omega
        have hkl : k < l.length := by rw [HQ.out]; exact hlt
        obtain ⟨x, hx⟩ : ∃ x, l[k]? = some x := ⟨_, List.getElem?_eq_getElem hkl⟩
        obtain ⟨b, o, rfl, c0⟩ := (HAT.out.later hbx.low) k x hx
        have hbl : b < wr.heap.size := block_lt_of_cell c0
        have HX := Nu.hid hx
        clear hin hx hbx
        by_cases hxi : 0 ≤ x ∧ x < (es.length : Int)
        · obtain ⟨xv, rfl⟩ : ∃ v : Nat, x = (v : Int) := ⟨x.toNat, by omega⟩
          have hx0 : (0 : Int) ≤ (xv : Int) := hxi.1
          have hx1 : (xv : Int) < (es.length : Int) := hxi.2
          obtain ⟨y, hy⟩ : ∃ y, L[xv]? = some y := ⟨_, List.getElem?_eq_getElem (by rw [hL, Ed.mks_length]; omega)⟩
          have y0 := hbls.cell hy
          have yf := hbls.free xv
          have HA2 := Nu.hid (hbls.set xv true)
          have HXI := Nu.hid hxi
          have HBX2 : Hid (Bx1 w n ao cap es (wr.setCell ⟨w1.heap.size, xv, none⟩ (.bool true))) :=
            ⟨HBX.out.low.setCell (by simp; omega) _, (heap_setCell_other _ ⟨w1.heap.size, xv, none⟩ _ _ (by simp; omega)).trans HBX.out.box, (heap_setCell_other _ ⟨w1.heap.size, xv, none⟩ _ _ (by simp; omega)).trans HBX.out.res⟩
          clear hbls hL hy hxi
          go_wp2_with (go_at_call 37; refine (isnum_yes hx0 hx1 _).mono ?_; rintro e w2 ⟨rfl, rfl⟩)
          go_roundw
          case rel =>
            refine ⟨k + 1, _, by omega, by go_num, ?_, fun i z hi hz => ?_, HA2.out, HBX2.out⟩
            · have e : l.getD k 0 = (xv : Int) := by rw [List.getD_eq_getElem?_getD, HX.out]; rfl
              show _ = (Ed.mks es.length l k).set _ _
              rw [e, ← HL.out]
              rfl
            · by_cases hik : i = k
              · subst hik
                rw [HX.out] at hz
                cases hz
                exact HXI.out
              · exact HIN.out i z (by omega) hz
          case measure => simp [intOf]; omega
        · have hr : Ed.sub n es l = (0, [], 2) := by
            unfold Ed.sub
            rw [if_neg (by rw [HV.out]; simp), if_pos (fun h => hxi (h x (List.mem_of_getElem? HX.out)))]
          have HR := Nu.hid hr
          have HOUT : Hid (x < 0 ∨ (es.length : Int) ≤ x) := Nu.hid (by omega)
          clear hbls hL hr hxi
          go_wp2_with (first
            | (go_at_call 37; refine (isnum_no HOUT.out _).mono ?_; rintro e w2 ⟨rfl, rfl⟩)
            | (go_at_call 36; refine (HRF.out _ _).mono ?_; rintro e w2 ⟨rfl, hb⟩; have HB2 := Nu.hid (HBX.out.later hb); clear hb; obtain ⟨r0, r1⟩ := HB2.out.rcells; have f0 := HB2.out.free 0; have f1 := HB2.out.free 1))
          obtain ⟨hb, s0, s1⟩ := HB2.out.store (.int .i64 0) (.slice none 0 0)
          refine bodyPost_ret (v := .tuple #[.agg #[.int .i64 0, .slice none 0 0], .int .i64 2]) (by simp [results, Try.results20, go_sem, s0, s1]) rfl ?_
          rw [HR.out]
          exact ⟨_, rfl, OwnE.nil _ _, hb⟩
      · have hd : ¬ ((k : Int) < (q : Int)) := by omega
        have hkq : k = l.length := by rw [HQ.out]; omega
        have hr : Ed.sub n es l = (n, Ed.sel L es, 0) := by
          unfold Ed.sub
          rw [if_neg (by rw [HV.out]; simp), if_neg, hL, hkq]
          · rfl
          · intro h
            refine h fun x hx => ?_
            obtain ⟨i, hi, e⟩ := List.mem_iff_getElem.1 hx
            exact hin i x (by omega) (by rw [← e]; exact List.getElem?_eq_getElem hi)
        have HR := Nu.hid hr
        have hll : L.length = es.length := by rw [hL, Ed.mks_length]
        have hch := fun W (hb : Below wr.heap.size wr W) => choose_any ao cap w1.heap.size es L W (HE.out.later (HBX.out.low.trans (hb.mono HBX.out.low.size))) hfew (HBLS.out.later hb) hll
        have HCH := Nu.hid hch
        clear hch hr hin hL hbls hbx hkq hll
        go_wp2
        go_region_held3 (fun w' => w'.cell? ⟨w.heap.size, 0, none⟩ = some (.int .i64 n) ∧ w'.cell? ⟨w.heap.size, 1, none⟩ = some (.slice ao es.length cap))
          (first
          | (go_keep; done)
          | (go_split_ands
             (try dsimp only); (repeat' apply And.intro) <;> (refine (hb3.cell (p := ⟨_, _, none⟩) ?_).trans ?_ <;> first | assumption | (simp; omega)))
          | (go_split_ands
             (try dsimp only); (repeat' apply And.intro) <;> (refine (hb4.cell (p := ⟨_, _, none⟩) ?_).trans ?_ <;> first | assumption | (simp; omega)))
          | (go_split_ands; (try dsimp only); (repeat' apply And.intro) <;> (refine (cell_put2 ?_ _ _).trans ?_ <;> first | assumption | omega | (simp; done))))
          ((go_at_call 44; refine (HCH.out _ (Below.refl _ _).drew).mono ?_; rintro e w3 ⟨v, rfl, hown, hb3'⟩; have hb3 : Below wr.heap.size wr w3 := (Below.refl wr.heap.size wr).drew.trans hb3'; have hown2 : OwnE w3 w.heap.size v (Ed.sel L es) := hown.lower (by simp; omega); obtain ⟨va, vc, rfl, -, -, -, -⟩ := hown.form; have HB3 := Nu.hid (HBX.out.later hb3); obtain ⟨r0, r1⟩ := HB3.out.rcells; have f0 := HB3.out.free 0; have f1 := HB3.out.free 1))
        have HOWN := Nu.hid hown2
        have HFAR := Nu.hid (hown.far (b := w.heap.size + 1) (by simp; omega))
        clear hown2 hown hb3 hb3'
        go_wp2
        obtain ⟨hb, s0, s1⟩ := HB3.out.store (.int .i64 n) (.slice va (Ed.sel L es).length vc)
        refine bodyPost_ret (v := .tuple #[.agg #[.int .i64 n, .slice va (Ed.sel L es).length vc], .int .i64 0]) (by simp [results, Try.results20, go_sem, s0, s1]) rfl ?_
        rw [HR.out]
        exact ⟨_, rfl, own_put2 HOWN.out HFAR.out _ _, hb⟩

end Go.Proofs.Ytdkckdbpbdhoaaa
