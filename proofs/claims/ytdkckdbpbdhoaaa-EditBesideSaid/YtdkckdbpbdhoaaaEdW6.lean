/-
  The program's Beside.
-/
import Derived.Test.YtdkckdbpbdhoaaaEdBx
import Derived.Test.YtdkckdbpbdhoaaaEdCh
namespace Go.Proofs.Ytdkckdbpbdhoaaa
open Go.RowKit Go.Sort

set_option maxRecDepth 100000 in
set_option maxHeartbeats 8000000 in
theorem ebeside_any (n n' : Int) (ao ao' : Option Addr) (cap cap' : Nat) (es es' : List (Int × Int)) (w : World) (he : EdgesAt w ao es) (he' : EdgesAt w ao' es') (hl : es.length ≤ 4611686018427387904) (hl' : es'.length ≤ 4611686018427387904) :
    Calls Try.prog 29 #[graphVal n ao es.length cap, graphVal n' ao' es'.length cap'] w (AnsP (Ed.beside n es n' es') w) := by
  have HE := Nu.hid he
  have HE' := Nu.hid he'
  have hva := fun W (hb : Below w.heap.size w W) => valid_any n ao cap es W (he.later hb) hl
  have hvb := fun W (hb : Below w.heap.size w W) => valid_any n' ao' cap' es' W (he'.later hb) hl'
  have hB0 := Bx2.start (w := w) (n := n) (ao := ao) (cap := cap) (es := es) (x := .int .i64 n') (y := .slice ao' es'.length cap') (t := 24)
  unfold graphVal at hva hvb ⊢
  have HVA := Nu.hid hva
  have HVB := Nu.hid hvb
  have HB0 := Nu.hid hB0
  have HRF := Nu.hid refuse_any
  clear he he' hva hvb hB0
  cases hv : Si.valid n es with
  | false =>
    have hr : Ed.beside n es n' es' = (0, [], 1) := by unfold Ed.beside; rw [if_pos (.inl hv)]
    rw [hr]
    rw [hv] at HVA
    clear hv hr
    go_enter Try.func29, Try.ntmps29
    go_wp2_with (go_at_call 35; refine (HVA.out _ HB0.out.low).mono ?_; rintro e w1 ⟨rfl, hb⟩; refine Hid.out ?_)
    refine Nu.hid ?_
    have HB1 := Nu.hid (HB0.out.later hb)
    clear hb
    obtain ⟨g0, g1⟩ := HB1.out.cells
    obtain ⟨t0, t1⟩ := HB1.out.cells2
    have hs1 := HB1.out.size
    have hs0 : w.heap.size < w1.heap.size := by omega
    have hs01 : w.heap.size + 1 < w1.heap.size := by omega
    go_wp2_with (go_at_call 36; refine (HRF.out _ _).mono ?_; rintro e wz ⟨rfl, hb⟩; have HB2 := Nu.hid (HB1.out.later hb); clear hb; obtain ⟨r0, r1⟩ := HB2.out.rcells; have f0 := HB2.out.free 0; have f1 := HB2.out.free 1)
    obtain ⟨hb, s0, s1⟩ := HB2.out.store (.int .i64 0) (.slice none 0 0)
    refine bodyPost_ret (v := .tuple #[.agg #[.int .i64 0, .slice none 0 0], .int .i64 1]) (by simp [results, Try.results29, go_sem, s0, s1]) rfl ?_
    exact ⟨_, rfl, OwnE.nil _ _, hb⟩
  | true =>
  cases hv' : Si.valid n' es' with
  | false =>
    have hr : Ed.beside n es n' es' = (0, [], 1) := by unfold Ed.beside; rw [if_pos (.inr hv')]
    rw [hr]
    rw [hv] at HVA
    rw [hv'] at HVB
    clear hv hv' hr
    go_enter Try.func29, Try.ntmps29
    go_wp2_with (go_at_call 35; refine (HVA.out _ HB0.out.low).mono ?_; rintro e w1 ⟨rfl, hb⟩; refine Hid.out ?_)
    refine Nu.hid ?_
    have HB1 := Nu.hid (HB0.out.later hb)
    clear hb
    obtain ⟨g0, g1⟩ := HB1.out.cells
    obtain ⟨t0, t1⟩ := HB1.out.cells2
    have hs1 := HB1.out.size
    have hs0 : w.heap.size < w1.heap.size := by omega
    have hs01 : w.heap.size + 1 < w1.heap.size := by omega
    go_wp2_with (go_at_call 35; refine (HVB.out _ HB1.out.low).mono ?_; rintro e w2 ⟨rfl, hb⟩; refine Hid.out ?_)
    refine Nu.hid ?_
    have HB1 := Nu.hid (HB1.out.later hb)
    clear hb g0 g1 t0 t1 hs1 hs0 hs01
    obtain ⟨g0, g1⟩ := HB1.out.cells
    obtain ⟨t0, t1⟩ := HB1.out.cells2
    have hs1 := HB1.out.size
    have hs0 : w.heap.size < w2.heap.size := by omega
    have hs01 : w.heap.size + 1 < w2.heap.size := by omega
    go_wp2_with (go_at_call 36; refine (HRF.out _ _).mono ?_; rintro e wz ⟨rfl, hb⟩; have HB2 := Nu.hid (HB1.out.later hb); clear hb; obtain ⟨r0, r1⟩ := HB2.out.rcells; have f0 := HB2.out.free 0; have f1 := HB2.out.free 1)
    obtain ⟨hb, s0, s1⟩ := HB2.out.store (.int .i64 0) (.slice none 0 0)
    refine bodyPost_ret (v := .tuple #[.agg #[.int .i64 0, .slice none 0 0], .int .i64 1]) (by simp [results, Try.results29, go_sem, s0, s1]) rfl ?_
    exact ⟨_, rfl, OwnE.nil _ _, hb⟩
  | true =>
    have hval := Si.valid_iff.1 hv
    have hval' := Si.valid_iff.1 hv'
    have hfew := hval.few
    have hfew' := hval'.few
    have hlo := hval.lo
    have hhi := hval.hi
    have hlo' := hval'.lo
    have hhi' := hval'.hi
    have HVAL := Nu.hid hval
    have HVAL' := Nu.hid hval'
    have hno : ¬ (Si.valid n es = false ∨ Si.valid n' es' = false) := by rw [hv, hv']; simp
    have HNO := Nu.hid hno
    rw [hv] at HVA
    rw [hv'] at HVB
    have hsn : IntKind.i64.wrap (n + n') = n + n' := wrap_small _ (by omega) (by omega)
    have hse : IntKind.i64.wrap ((es.length : Int) + (es'.length : Int)) = (es.length : Int) + (es'.length : Int) := wrap_small _ (by omega) (by omega)
    clear hv hv' hval hval' hno hl hl'
    by_cases hbn : 1048576 < n + n'
    · have hr : Ed.beside n es n' es' = (0, [], 141) := by
        unfold Ed.beside
        rw [if_neg HNO.out, if_pos (.inl hbn)]
      rw [hr]
      have hbd : decide (1048576 < n + n') = true := by simp [hbn]
      clear hr hbn hlo hhi hlo' hhi' hfew hfew'
      go_enter Try.func29, Try.ntmps29
      go_wp2_with (go_at_call 35; refine (HVA.out _ HB0.out.low).mono ?_; rintro e w1 ⟨rfl, hb⟩; refine Hid.out ?_)
      refine Nu.hid ?_
      have HB1 := Nu.hid (HB0.out.later hb)
      clear hb
      obtain ⟨g0, g1⟩ := HB1.out.cells
      obtain ⟨t0, t1⟩ := HB1.out.cells2
      have hs1 := HB1.out.size
      have hs0 : w.heap.size < w1.heap.size := by omega
      have hs01 : w.heap.size + 1 < w1.heap.size := by omega
      go_wp2_with (go_at_call 35; refine (HVB.out _ HB1.out.low).mono ?_; rintro e w2 ⟨rfl, hb⟩; refine Hid.out ?_)
      refine Nu.hid ?_
      have HB1 := Nu.hid (HB1.out.later hb)
      clear hb g0 g1 t0 t1 hs1 hs0 hs01
      obtain ⟨g0, g1⟩ := HB1.out.cells
      obtain ⟨t0, t1⟩ := HB1.out.cells2
      have hs1 := HB1.out.size
      have hs0 : w.heap.size < w2.heap.size := by omega
      have hs01 : w.heap.size + 1 < w2.heap.size := by omega
      go_wp2_with (go_at_call 36; refine (HRF.out _ _).mono ?_; rintro e wz ⟨rfl, hb⟩; have HB2 := Nu.hid (HB1.out.later hb); clear hb; obtain ⟨r0, r1⟩ := HB2.out.rcells; have f0 := HB2.out.free 0; have f1 := HB2.out.free 1)
      obtain ⟨hb, s0, s1⟩ := HB2.out.store (.int .i64 0) (.slice none 0 0)
      refine bodyPost_ret (v := .tuple #[.agg #[.int .i64 0, .slice none 0 0], .int .i64 141]) (by simp [results, Try.results29, go_sem, s0, s1]) rfl ?_
      exact ⟨_, rfl, OwnE.nil _ _, hb⟩
    have hbd : decide (1048576 < n + n') = false := by simp; omega
    by_cases hbe : (4194304 : Int) < (es.length : Int) + (es'.length : Int)
    · have hr : Ed.beside n es n' es' = (0, [], 141) := by
        unfold Ed.beside
        rw [if_neg HNO.out, if_pos (.inr (by omega))]
      rw [hr]
      have hbf : decide ((4194304 : Int) < (es.length : Int) + (es'.length : Int)) = true := by simp; omega
      clear hr hbn hbe hlo hhi hlo' hhi' hfew hfew'
      go_enter Try.func29, Try.ntmps29
      go_wp2_with (go_at_call 35; refine (HVA.out _ HB0.out.low).mono ?_; rintro e w1 ⟨rfl, hb⟩; refine Hid.out ?_)
      refine Nu.hid ?_
      have HB1 := Nu.hid (HB0.out.later hb)
      clear hb
      obtain ⟨g0, g1⟩ := HB1.out.cells
      obtain ⟨t0, t1⟩ := HB1.out.cells2
      have hs1 := HB1.out.size
      have hs0 : w.heap.size < w1.heap.size := by omega
      have hs01 : w.heap.size + 1 < w1.heap.size := by omega
      go_wp2_with (go_at_call 35; refine (HVB.out _ HB1.out.low).mono ?_; rintro e w2 ⟨rfl, hb⟩; refine Hid.out ?_)
      refine Nu.hid ?_
      have HB1 := Nu.hid (HB1.out.later hb)
      clear hb g0 g1 t0 t1 hs1 hs0 hs01
      obtain ⟨g0, g1⟩ := HB1.out.cells
      obtain ⟨t0, t1⟩ := HB1.out.cells2
      have hs1 := HB1.out.size
      have hs0 : w.heap.size < w2.heap.size := by omega
      have hs01 : w.heap.size + 1 < w2.heap.size := by omega
      go_wp2_with (go_at_call 36; refine (HRF.out _ _).mono ?_; rintro e wz ⟨rfl, hb⟩; have HB2 := Nu.hid (HB1.out.later hb); clear hb; obtain ⟨r0, r1⟩ := HB2.out.rcells; have f0 := HB2.out.free 0; have f1 := HB2.out.free 1)
      obtain ⟨hb, s0, s1⟩ := HB2.out.store (.int .i64 0) (.slice none 0 0)
      refine bodyPost_ret (v := .tuple #[.agg #[.int .i64 0, .slice none 0 0], .int .i64 141]) (by simp [results, Try.results29, go_sem, s0, s1]) rfl ?_
      exact ⟨_, rfl, OwnE.nil _ _, hb⟩
    have hbf : decide ((4194304 : Int) < (es.length : Int) + (es'.length : Int)) = false := by simp; omega
    have hr : Ed.beside n es n' es' = (n + n', Ed.mrg es (Ed.sh n es'), 0) := by
      unfold Ed.beside
      rw [if_neg HNO.out, if_neg (by omega), Ed.mrg_sh HVAL.out HVAL'.out]
    rw [hr]
    have hsl := Ed.sh_length n es'
    have hpt := fun W (mb : Nat) (hb : Below w.heap.size w W) (hm : EdgesAt W (some ⟨mb, 0, none⟩) (Ed.sh n es')) (hmb : mb < W.heap.size) => eput_any ao cap mb 0 es'.length es (Ed.sh n es') W (HE.out.later hb) hm (by omega) (by omega) (by omega) (by omega) hmb
    rw [hsl] at hpt
    have HPT := Nu.hid hpt
    have hsf := fun W (hb : Below w.heap.size w W) => shift_any n ao' cap' es' W (HE'.out.later hb) hfew' ⟨hlo, hhi⟩ (fun j p hp => by
      have := HVAL'.out.each j p hp
      unfold Si.ok at this
      omega)
    have HSF := Nu.hid hsf
    clear hpt hsf hr hsl hbn hbe hlo hhi hlo' hhi' hfew hfew'
    go_enter Try.func29, Try.ntmps29
    go_wp2_with (go_at_call 35; refine (HVA.out _ HB0.out.low).mono ?_; rintro e w1 ⟨rfl, hb⟩; refine Hid.out ?_)
    refine Nu.hid ?_
    have HB1 := Nu.hid (HB0.out.later hb)
    clear hb
    obtain ⟨g0, g1⟩ := HB1.out.cells
    obtain ⟨t0, t1⟩ := HB1.out.cells2
    have hs1 := HB1.out.size
    have hs0 : w.heap.size < w1.heap.size := by omega
    have hs01 : w.heap.size + 1 < w1.heap.size := by omega
    go_wp2_with (go_at_call 35; refine (HVB.out _ HB1.out.low).mono ?_; rintro e w2 ⟨rfl, hb⟩; refine Hid.out ?_)
    refine Nu.hid ?_
    have HB1 := Nu.hid (HB1.out.later hb)
    clear hb g0 g1 t0 t1 hs1 hs0 hs01
    obtain ⟨g0, g1⟩ := HB1.out.cells
    obtain ⟨t0, t1⟩ := HB1.out.cells2
    have hs1 := HB1.out.size
    have hs0 : w.heap.size < w2.heap.size := by omega
    have hs01 : w.heap.size + 1 < w2.heap.size := by omega
    go_wp2
    go_region_held3 (fun w' => w'.cell? ⟨w.heap.size, 0, none⟩ = some (.int .i64 n) ∧ w'.cell? ⟨w.heap.size, 1, none⟩ = some (.slice ao es.length cap) ∧ w'.cell? ⟨w.heap.size + 1, 0, none⟩ = some (.int .i64 n') ∧ w'.cell? ⟨w.heap.size + 1, 1, none⟩ = some (.slice ao' es'.length cap'))
      (first
          | (go_keep; done)
          | (go_split_ands
             (try dsimp only); (repeat' apply And.intro) <;> (refine (hb3.cell (p := ⟨_, _, none⟩) ?_).trans ?_ <;> first | assumption | (simp; omega)))
          | (go_split_ands
             (try dsimp only); (repeat' apply And.intro) <;> (refine (hb4.cell (p := ⟨_, _, none⟩) ?_).trans ?_ <;> first | assumption | (simp; omega)))
          | (go_split_ands; (try dsimp only); (repeat' apply And.intro) <;> (refine (cell_put2 ?_ _ _).trans ?_ <;> first | assumption | omega | (simp; done))))
      (first
        | (go_at_call 41; refine (HPT.out _ _ HB3.out.low hed hgl).mono ?_; rintro e w4 ⟨v, rfl, hown, hb4⟩; have hown2 : OwnE w4 w.heap.size v (Ed.mrg es (Ed.sh n es')) := hown.lower (by have := HB3.out.size; omega); obtain ⟨va, vc, rfl, -, -, -, -⟩ := hown.form; have HB4 := Nu.hid (HB3.out.later hb4); obtain ⟨r0, r1⟩ := HB4.out.rcells; have f0 := HB4.out.free 0; have f1 := HB4.out.free 1)
        | (go_at_call 49; refine (HSF.out _ HB1.out.low.drew).mono ?_; rintro e w3 ⟨gg, rfl, heds, hgg, hb3'⟩; have hb3 : Below w2.heap.size w2 w3 := (Below.refl w2.heap.size w2).drew.trans hb3'; have HB3 := Nu.hid (HB1.out.later hb3); have hed := heds.at; have hgl := heds.lt; have hs3 := HB3.out.size))
    have HOWN := Nu.hid hown2
    have HFAR := Nu.hid (hown.far (b := w.heap.size + 2) (by omega))
    clear hown2 hown hb4 hb3 hb3' hed heds
    go_wp2
    obtain ⟨hb, s0, s1⟩ := HB4.out.store (.int .i64 (n + n')) (.slice va (Ed.mrg es (Ed.sh n es')).length vc)
    refine bodyPost_ret (v := .tuple #[.agg #[.int .i64 (n + n'), .slice va (Ed.mrg es (Ed.sh n es')).length vc], .int .i64 0]) (by simp [results, Try.results29, go_sem, s0, s1]) rfl ?_
    exact ⟨_, rfl, own_put2 HOWN.out HFAR.out _ _, hb⟩

end Go.Proofs.Ytdkckdbpbdhoaaa
