/-
  The program's Apex.
-/
import Derived.Test.YtdkckdbpbdhoaaaEdW1
import Derived.Test.YtdkckdbpbdhoaaaEdCh
namespace Go.Proofs.Ytdkckdbpbdhoaaa
open Go.RowKit Go.Sort

set_option maxRecDepth 100000 in
set_option maxHeartbeats 8000000 in
theorem eapex_any (n : Int) (ao : Option Addr) (cap : Nat) (es : List (Int × Int)) (w : World) (he : EdgesAt w ao es) (hl : es.length ≤ 4611686018427387904) :
    Calls Try.prog 17 #[graphVal n ao es.length cap] w (AnsP (Ed.apex n es) w) := by
  have HE := Nu.hid he
  have hva := fun W (hb : Below w.heap.size w W) => valid_any n ao cap es W (he.later hb) hl
  have hB0 := Bx1.start (w := w) (n := n) (ao := ao) (cap := cap) (es := es)
  unfold graphVal at hva ⊢
  have HVA := Nu.hid hva
  have HB0 := Nu.hid hB0
  have HRF := Nu.hid refuse_any
  clear he hva hB0
  cases hv : Si.valid n es with
  | false =>
    have hr : Ed.apex n es = (0, [], 1) := by unfold Ed.apex; rw [if_pos hv]
    rw [hr]
    rw [hv] at HVA
    clear hv hr
    go_enter Try.func17, Try.ntmps17
    go_wp2_with (go_at_call 35; refine (HVA.out _ HB0.out.low).mono ?_; rintro e w1 ⟨rfl, hb⟩; refine Hid.out ?_)
    refine Nu.hid ?_
    have HB1 := Nu.hid (HB0.out.later hb)
    clear hb
    obtain ⟨g0, g1⟩ := HB1.out.cells
    have hs1 := HB1.out.size
    have hs0 : w.heap.size < w1.heap.size := by omega
    go_wp2_with (go_at_call 36; refine (HRF.out _ _).mono ?_; rintro e w2 ⟨rfl, hb⟩; have HB2 := Nu.hid (HB1.out.later hb); clear hb; obtain ⟨r0, r1⟩ := HB2.out.rcells; have f0 := HB2.out.free 0; have f1 := HB2.out.free 1)
    obtain ⟨hb, s0, s1⟩ := HB2.out.store (.int .i64 0) (.slice none 0 0)
    refine bodyPost_ret (v := .tuple #[.agg #[.int .i64 0, .slice none 0 0], .int .i64 1]) (by simp [results, Try.results17, go_sem, s0, s1]) rfl ?_
    exact ⟨_, rfl, OwnE.nil _ _, hb⟩
  | true =>
    have hval := Si.valid_iff.1 hv
    have hfew := hval.few
    have hlo := hval.lo
    have hhi := hval.hi
    have HVAL := Nu.hid hval
    have HV := Nu.hid hv
    rw [hv] at HVA
    clear hv hval
    obtain ⟨m, rfl⟩ : ∃ m : Nat, n = (m : Int) := ⟨n.toNat, by omega⟩
    by_cases hbn : (1048576 : Int) ≤ (m : Int)
    · have hr : Ed.apex (m : Int) es = (0, [], 141) := by
        unfold Ed.apex
        rw [if_neg (by rw [HV.out]; simp), if_pos (.inl hbn)]
      rw [hr]
      clear hr
      go_enter Try.func17, Try.ntmps17
      go_wp2_with (go_at_call 35; refine (HVA.out _ HB0.out.low).mono ?_; rintro e w1 ⟨rfl, hb⟩; refine Hid.out ?_)
      refine Nu.hid ?_
      have HB1 := Nu.hid (HB0.out.later hb)
      clear hb
      obtain ⟨g0, g1⟩ := HB1.out.cells
      have hs1 := HB1.out.size
      have hs0 : w.heap.size < w1.heap.size := by omega
      go_wp2_with (go_at_call 36; refine (HRF.out _ _).mono ?_; rintro e w2 ⟨rfl, hb⟩; have HB2 := Nu.hid (HB1.out.later hb); clear hb; obtain ⟨r0, r1⟩ := HB2.out.rcells; have f0 := HB2.out.free 0; have f1 := HB2.out.free 1)
      obtain ⟨hb, s0, s1⟩ := HB2.out.store (.int .i64 0) (.slice none 0 0)
      refine bodyPost_ret (v := .tuple #[.agg #[.int .i64 0, .slice none 0 0], .int .i64 141]) (by simp [results, Try.results17, go_sem, s0, s1]) rfl ?_
      exact ⟨_, rfl, OwnE.nil _ _, hb⟩
    by_cases hbe : (4194304 : Int) < (es.length : Int) + (m : Int)
    · have hr : Ed.apex (m : Int) es = (0, [], 141) := by
        unfold Ed.apex
        rw [if_neg (by rw [HV.out]; simp), if_pos (.inr hbe)]
      rw [hr]
      clear hr
      go_enter Try.func17, Try.ntmps17
      go_wp2_with (go_at_call 35; refine (HVA.out _ HB0.out.low).mono ?_; rintro e w1 ⟨rfl, hb⟩; refine Hid.out ?_)
      refine Nu.hid ?_
      have HB1 := Nu.hid (HB0.out.later hb)
      clear hb
      obtain ⟨g0, g1⟩ := HB1.out.cells
      have hs1 := HB1.out.size
      have hs0 : w.heap.size < w1.heap.size := by omega
      go_wp2_with (go_at_call 36; refine (HRF.out _ _).mono ?_; rintro e w2 ⟨rfl, hb⟩; have HB2 := Nu.hid (HB1.out.later hb); clear hb; obtain ⟨r0, r1⟩ := HB2.out.rcells; have f0 := HB2.out.free 0; have f1 := HB2.out.free 1)
      obtain ⟨hb, s0, s1⟩ := HB2.out.store (.int .i64 0) (.slice none 0 0)
      refine bodyPost_ret (v := .tuple #[.agg #[.int .i64 0, .slice none 0 0], .int .i64 141]) (by simp [results, Try.results17, go_sem, s0, s1]) rfl ?_
      exact ⟨_, rfl, OwnE.nil _ _, hb⟩
    have hr : Ed.apex (m : Int) es = ((m : Int) + 1, Ed.mrg es (Ed.sp (m : Int) m), 0) := by
      unfold Ed.apex
      rw [if_neg (by rw [HV.out]; simp), if_neg (by omega), Ed.mrg_sp HVAL.out]
      simp
    rw [hr]
    have hsl : (Ed.sp (m : Int) m).length = m := by simp [Ed.sp]
    have hpt := fun W (mb : Nat) (hb : Below w.heap.size w W) (hm : EdgesAt W (some ⟨mb, 0, none⟩) (Ed.sp (m : Int) m)) (hmb : mb < W.heap.size) => eput_any ao cap mb 0 m es (Ed.sp (m : Int) m) W (HE.out.later hb) hm (by omega) (by omega) (by omega) (by omega) hmb
    rw [hsl] at hpt
    have HPT := Nu.hid hpt
    have hspk := fun W => spokes_any m W (by omega)
    have HSPK := Nu.hid hspk
    have hbe' : decide ((4194304 : Int) < (es.length : Int) + (m : Int)) = false := by simp; omega
    have HBE := Nu.hid hbe
    have hmm : decide ((1048576 : Int) ≤ (m : Int)) = false := by simp; omega
    have hsum : IntKind.i64.wrap ((es.length : Int) + (m : Int)) = (es.length : Int) + (m : Int) := wrap_small _ (by omega) (by omega)
    have hsuc : IntKind.i64.wrap ((m : Int) + 1) = (m : Int) + 1 := wrap_small _ (by omega) (by omega)
    clear hpt hspk hr hsl hhi hlo hbe hbn hfew hl
    go_enter Try.func17, Try.ntmps17
    go_wp2_with (go_at_call 35; refine (HVA.out _ HB0.out.low).mono ?_; rintro e w1 ⟨rfl, hb⟩; refine Hid.out ?_)
    refine Nu.hid ?_
    have HB1 := Nu.hid (HB0.out.later hb)
    clear hb
    obtain ⟨g0, g1⟩ := HB1.out.cells
    have hs1 := HB1.out.size
    have hs0 : w.heap.size < w1.heap.size := by omega
    go_wp2
    go_region_held3 (fun w' => w'.cell? ⟨w.heap.size, 0, none⟩ = some (.int .i64 (m : Int)) ∧ w'.cell? ⟨w.heap.size, 1, none⟩ = some (.slice ao es.length cap))
      (first
          | (go_keep; done)
          | (go_split_ands
             (try dsimp only); (repeat' apply And.intro) <;> (refine (hb3.cell (p := ⟨_, _, none⟩) ?_).trans ?_ <;> first | assumption | (simp; omega)))
          | (go_split_ands
             (try dsimp only); (repeat' apply And.intro) <;> (refine (hb4.cell (p := ⟨_, _, none⟩) ?_).trans ?_ <;> first | assumption | (simp; omega)))
          | (go_split_ands; (try dsimp only); (repeat' apply And.intro) <;> (refine (cell_put2 ?_ _ _).trans ?_ <;> first | assumption | omega | (simp; done))))
      (first
        | (go_at_call 41; refine (HPT.out _ _ HB3.out.low hed hgl).mono ?_; rintro e w4 ⟨v, rfl, hown, hb4⟩; have hown2 : OwnE w4 w.heap.size v (Ed.mrg es (Ed.sp (m : Int) m)) := hown.lower (by have := HB3.out.size; omega); obtain ⟨va, vc, rfl, -, -, -, -⟩ := hown.form; have HB4 := Nu.hid (HB3.out.later hb4); obtain ⟨r0, r1⟩ := HB4.out.rcells; have f0 := HB4.out.free 0; have f1 := HB4.out.free 1)
        | (go_at_call 43; refine (HSPK.out _).mono ?_; rintro e w3 ⟨gg, rfl, heds, hgg, hb3'⟩; have hb3 : Below w1.heap.size w1 w3 := (Below.refl w1.heap.size w1).drew.trans hb3'; have HB3 := Nu.hid (HB1.out.later hb3); have hed := heds.at; have hgl := heds.lt; have hs3 := HB3.out.size))
    have HOWN := Nu.hid hown2
    have HFAR := Nu.hid (hown.far (b := w.heap.size + 1) (by omega))
    clear hown2 hown hb4 hb3 hb3' hed heds
    go_wp2
    obtain ⟨hb, s0, s1⟩ := HB4.out.store (.int .i64 ((m : Int) + 1)) (.slice va (Ed.mrg es (Ed.sp (m : Int) m)).length vc)
    refine bodyPost_ret (v := .tuple #[.agg #[.int .i64 ((m : Int) + 1), .slice va (Ed.mrg es (Ed.sp (m : Int) m)).length vc], .int .i64 0]) (by simp [results, Try.results17, go_sem, s0, s1]) rfl ?_
    exact ⟨_, rfl, own_put2 HOWN.out HFAR.out _ _, hb⟩

end Go.Proofs.Ytdkckdbpbdhoaaa
