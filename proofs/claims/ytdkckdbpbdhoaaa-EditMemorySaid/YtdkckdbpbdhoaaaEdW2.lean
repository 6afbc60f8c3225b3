/-
  The program's With.
-/
import Derived.Test.YtdkckdbpbdhoaaaEdBx
import Derived.Test.YtdkckdbpbdhoaaaSiFind
namespace Go.Proofs.Ytdkckdbpbdhoaaa
open Go.RowKit Go.Sort

theorem edges_one (W : World) (x y : Int) : EdgesAt (W.alloc (.cells #[.int .i64 x, .int .i64 y] 26)).drew (some ⟨W.heap.size, 0, none⟩) [(x, y)] := by
  intro j p hj
  have h : (W.alloc (.cells #[.int .i64 x, .int .i64 y] 26)).drew.heap[W.heap.size]? = some (.cells #[.int .i64 x, .int .i64 y] 26 (0, 0)) := heap_alloc_new W _
  obtain ⟨c0, c1, -⟩ := pair_cells h
  cases j with
  | zero =>
    simp at hj
    subst hj
    exact ⟨_, 0, rfl, c0, c1⟩
  | succ j => simp at hj

set_option maxRecDepth 100000 in
set_option maxHeartbeats 8000000 in
theorem ewith_any (n : Int) (x : Int × Int) (ao : Option Addr) (cap : Nat) (es : List (Int × Int)) (w : World) (he : EdgesAt w ao es) (hl : es.length ≤ 4611686018427387904) :
    Calls Try.prog 13 #[graphVal n ao es.length cap, edgeVal x] w (AnsP (Ed.withE n es x) w) := by
  have HE := Nu.hid he
  have hva := fun W (hb : Below w.heap.size w W) => valid_any n ao cap es W (he.later hb) hl
  have hfi := fun W (hb : Below w.heap.size w W) => find_any n ao cap es x W (he.later hb) hl
  have hB0 := Bx2.start (w := w) (n := n) (ao := ao) (cap := cap) (es := es) (x := .int .i64 x.1) (y := .int .i64 x.2) (t := 26)
  unfold graphVal at hva ⊢
  unfold graphVal edgeVal at hfi
  unfold edgeVal
  have HVA := Nu.hid hva
  have HFI := Nu.hid hfi
  have HB0 := Nu.hid hB0
  have HRF := Nu.hid refuse_any
  clear he hva hfi hB0
  obtain ⟨x1, x2⟩ := x
  dsimp only at HB0 HFI ⊢
  cases hv : Si.valid n es with
  | false =>
    have hr : Ed.withE n es (x1, x2) = (0, [], 1) := by unfold Ed.withE; rw [if_pos hv]
    rw [hr]
    rw [hv] at HVA
    clear hv hr
    go_enter Try.func13, Try.ntmps13
    go_wp2_with (go_at_call 35; refine (HVA.out _ HB0.out.low).mono ?_; rintro e w1 ⟨rfl, hb⟩; refine Hid.out ?_)
    refine Nu.hid ?_
    have HB1 := Nu.hid (HB0.out.later hb)
    clear hb
    obtain ⟨g0, g1⟩ := HB1.out.cells
    obtain ⟨t0, t1⟩ := HB1.out.cells2
    have hs1 := HB1.out.size
    go_wp2_with (go_at_call 36; refine (HRF.out _ _).mono ?_; rintro e w2 ⟨rfl, hb⟩; have HB2 := Nu.hid (HB1.out.later hb); clear hb; obtain ⟨r0, r1⟩ := HB2.out.rcells; have f0 := HB2.out.free 0; have f1 := HB2.out.free 1)
    obtain ⟨hb, s0, s1⟩ := HB2.out.store (.int .i64 0) (.slice none 0 0)
    refine bodyPost_ret (v := .tuple #[.agg #[.int .i64 0, .slice none 0 0], .int .i64 1]) (by simp [results, Try.results13, go_sem, s0, s1]) rfl ?_
    exact ⟨_, rfl, OwnE.nil _ _, hb⟩
  | true =>
    have hval := Si.valid_iff.1 hv
    have hfew := hval.few
    have HVAL := Nu.hid hval
    have HV := Nu.hid hv
    rw [hv] at HVA
    clear hv hval
    by_cases hok : Si.ok n (x1, x2)
    · have HOK := Nu.hid hok
      unfold Si.ok at hok
      dsimp only at hok
      obtain ⟨k1, k2, k3⟩ := hok
      have k1' : ¬ x1 < 0 := by omega
      have k2' : ¬ x2 ≤ x1 := by omega
      have k3' : ¬ n ≤ x2 := by omega
      go_enter Try.func13, Try.ntmps13
      go_wp2_with (go_at_call 35; refine (HVA.out _ HB0.out.low).mono ?_; rintro e w1 ⟨rfl, hb⟩; refine Hid.out ?_)
      refine Nu.hid ?_
      have HB1 := Nu.hid (HB0.out.later hb)
      clear hb
      obtain ⟨g0, g1⟩ := HB1.out.cells
      obtain ⟨t0, t1⟩ := HB1.out.cells2
      have hs1 := HB1.out.size
      go_wp2_with (go_at_call 40; refine (HFI.out _ HB1.out.low).mono ?_; rintro e w2 ⟨⟨r, hf, rfl⟩, hb⟩; refine Hid.out ?_)
      refine Nu.hid ?_
      have HB1 := Nu.hid (HB1.out.later hb)
      clear hb g0 g1 t0 t1 hs1
      obtain ⟨g0, g1⟩ := HB1.out.cells
      obtain ⟨t0, t1⟩ := HB1.out.cells2
      have hs1 := HB1.out.size
      by_cases hm : (x1, x2) ∈ es
      · have hr : Ed.withE n es (x1, x2) = (0, [], 140) := by
          unfold Ed.withE
          rw [if_neg (by rw [HV.out]; simp), if_neg (by simpa using HOK.out), if_pos hm]
        have HR := Nu.hid hr
        have hr0 : 0 ≤ r := by
          rcases hf with ⟨k, _, _, rfl⟩ | ⟨_, hn⟩
          · omega
          · obtain ⟨j, hj, ej⟩ := List.mem_iff_getElem.1 hm
            exact absurd ⟨HVAL.out, j, by rw [← ej]; exact List.getElem?_eq_getElem hj⟩ hn
        clear hf hm hr
        go_wp2_with (go_at_call 36; refine (HRF.out _ _).mono ?_; rintro e w2 ⟨rfl, hb⟩; have HB2 := Nu.hid (HB1.out.later hb); clear hb; obtain ⟨r0, r1⟩ := HB2.out.rcells; have f0 := HB2.out.free 0; have f1 := HB2.out.free 1)
        obtain ⟨hb, s0, s1⟩ := HB2.out.store (.int .i64 0) (.slice none 0 0)
        refine bodyPost_ret (v := .tuple #[.agg #[.int .i64 0, .slice none 0 0], .int .i64 140]) (by simp [results, Try.results13, go_sem, s0, s1]) rfl ?_
        rw [HR.out]
        exact ⟨_, rfl, OwnE.nil _ _, hb⟩
      · have hr0 : ¬ (0 ≤ r) := by
          rcases hf with ⟨k, _, hk, rfl⟩ | ⟨rfl, _⟩
          · exact absurd (List.mem_of_getElem? hk) hm
          · omega
        clear hf
        by_cases hbig : 4194304 ≤ es.length
        · have hr : Ed.withE n es (x1, x2) = (0, [], 141) := by
            unfold Ed.withE
            rw [if_neg (by rw [HV.out]; simp), if_neg (by simpa using HOK.out), if_neg hm, if_pos hbig]
          have HR := Nu.hid hr
          have hbi : (4194304 : Int) ≤ (es.length : Int) := by omega
          clear hm hr
          go_wp2_with (go_at_call 36; refine (HRF.out _ _).mono ?_; rintro e w2 ⟨rfl, hb⟩; have HB2 := Nu.hid (HB1.out.later hb); clear hb; obtain ⟨r0, r1⟩ := HB2.out.rcells; have f0 := HB2.out.free 0; have f1 := HB2.out.free 1)
          obtain ⟨hb, s0, s1⟩ := HB2.out.store (.int .i64 0) (.slice none 0 0)
          refine bodyPost_ret (v := .tuple #[.agg #[.int .i64 0, .slice none 0 0], .int .i64 141]) (by simp [results, Try.results13, go_sem, s0, s1]) rfl ?_
          rw [HR.out]
          exact ⟨_, rfl, OwnE.nil _ _, hb⟩
        · have hr : Ed.withE n es (x1, x2) = (n, Ed.mrg es [(x1, x2)], 0) := by
            unfold Ed.withE
            rw [if_neg (by rw [HV.out]; simp), if_neg (by simpa using HOK.out), if_neg hm, if_neg hbig, Ed.mrg_one (Ed.sorted_of_val HVAL.out) hm]
          have HR := Nu.hid hr
          have hbi : ¬ ((4194304 : Int) ≤ (es.length : Int)) := by omega
          have hpt := fun W (mb : Nat) (hb : Below w.heap.size w W) (hm : EdgesAt W (some ⟨mb, 0, none⟩) [(x1, x2)]) (hmb : mb < W.heap.size) => eput_any ao cap mb 0 1 es [(x1, x2)] W (HE.out.later hb) hm (by omega) (by simp) (by simp) (by omega) hmb
          simp only [List.length_cons, List.length_nil, Nat.zero_add] at hpt
          have HPT := Nu.hid hpt
          clear hm hr hpt
          go_wp2
          go_region_held3 (fun w' => w'.cell? ⟨w.heap.size, 0, none⟩ = some (.int .i64 n) ∧ w'.cell? ⟨w.heap.size, 1, none⟩ = some (.slice ao es.length cap) ∧ w'.cell? ⟨w.heap.size + 1, 0, none⟩ = some (.int .i64 x1) ∧ w'.cell? ⟨w.heap.size + 1, 1, none⟩ = some (.int .i64 x2))
            (first
              | (go_keep; done)
              | (go_split_ands
                 refine ⟨?_, ?_, ?_, ?_⟩ <;> (refine (hb3.cell (p := ⟨_, _, none⟩) ?_).trans ?_ <;> first | assumption | (simp; omega)))
              | (go_split_ands; (try dsimp only); (repeat' apply And.intro) <;> (refine (cell_put2 ?_ _ _).trans ?_ <;> first | assumption | omega | (simp; done))))
            ((go_at_call 41; refine (HPT.out _ w2.heap.size (HB1.out.low.alloc (by omega) _).drew (edges_one w2 x1 x2) (by simp)).mono ?_; rintro e w3 ⟨v, rfl, hown, hb3'⟩; have hb3 : Below w2.heap.size w2 w3 := ((Below.refl w2.heap.size w2).alloc (Nat.le_refl _) _).drew.trans (hb3'.mono (by simp)); have hown2 : OwnE w3 w.heap.size v (Ed.mrg es [(x1, x2)]) := hown.lower (by simp; omega); obtain ⟨va, vc, rfl, -, -, -, -⟩ := hown.form; have HB3 := Nu.hid (HB1.out.later hb3); obtain ⟨r0, r1⟩ := HB3.out.rcells; have f0 := HB3.out.free 0; have f1 := HB3.out.free 1))
          have HOWN := Nu.hid hown2
          have HFAR := Nu.hid (hown.far (b := w.heap.size + 2) (by simp; omega))
          clear hown2 hown hb3 hb3'
          go_wp2
          obtain ⟨hb, s0, s1⟩ := HB3.out.store (.int .i64 n) (.slice va (Ed.mrg es [(x1, x2)]).length vc)
          refine bodyPost_ret (v := .tuple #[.agg #[.int .i64 n, .slice va (Ed.mrg es [(x1, x2)]).length vc], .int .i64 0]) (by simp [results, Try.results13, go_sem, s0, s1]) rfl ?_
          rw [HR.out]
          exact ⟨_, rfl, own_put2 HOWN.out HFAR.out _ _, hb⟩
    · have hr : Ed.withE n es (x1, x2) = (0, [], 2) := by
        unfold Ed.withE
        rw [if_neg (by rw [HV.out]; simp), if_pos hok]
      rw [hr]
      have hok' : x1 < 0 ∨ x2 ≤ x1 ∨ n ≤ x2 := by
        unfold Si.ok at hok
        dsimp only at hok
        omega
      clear hok hr
      by_cases k1 : x1 < 0
      · clear hok'
        go_enter Try.func13, Try.ntmps13
        go_wp2_with (go_at_call 35; refine (HVA.out _ HB0.out.low).mono ?_; rintro e w1 ⟨rfl, hb⟩; refine Hid.out ?_)
        refine Nu.hid ?_
        have HB1 := Nu.hid (HB0.out.later hb)
        clear hb
        obtain ⟨g0, g1⟩ := HB1.out.cells
        obtain ⟨t0, t1⟩ := HB1.out.cells2
        have hs1 := HB1.out.size
        go_wp2_with (go_at_call 36; refine (HRF.out _ _).mono ?_; rintro e w2 ⟨rfl, hb⟩; have HB2 := Nu.hid (HB1.out.later hb); clear hb; obtain ⟨r0, r1⟩ := HB2.out.rcells; have f0 := HB2.out.free 0; have f1 := HB2.out.free 1)
        obtain ⟨hb, s0, s1⟩ := HB2.out.store (.int .i64 0) (.slice none 0 0)
        refine bodyPost_ret (v := .tuple #[.agg #[.int .i64 0, .slice none 0 0], .int .i64 2]) (by simp [results, Try.results13, go_sem, s0, s1]) rfl ?_
        exact ⟨_, rfl, OwnE.nil _ _, hb⟩
      by_cases k2 : x2 ≤ x1
      · clear hok'
        go_enter Try.func13, Try.ntmps13
        go_wp2_with (go_at_call 35; refine (HVA.out _ HB0.out.low).mono ?_; rintro e w1 ⟨rfl, hb⟩; refine Hid.out ?_)
        refine Nu.hid ?_
        have HB1 := Nu.hid (HB0.out.later hb)
        clear hb
        obtain ⟨g0, g1⟩ := HB1.out.cells
        obtain ⟨t0, t1⟩ := HB1.out.cells2
        have hs1 := HB1.out.size
        go_wp2_with (go_at_call 36; refine (HRF.out _ _).mono ?_; rintro e w2 ⟨rfl, hb⟩; have HB2 := Nu.hid (HB1.out.later hb); clear hb; obtain ⟨r0, r1⟩ := HB2.out.rcells; have f0 := HB2.out.free 0; have f1 := HB2.out.free 1)
        obtain ⟨hb, s0, s1⟩ := HB2.out.store (.int .i64 0) (.slice none 0 0)
        refine bodyPost_ret (v := .tuple #[.agg #[.int .i64 0, .slice none 0 0], .int .i64 2]) (by simp [results, Try.results13, go_sem, s0, s1]) rfl ?_
        exact ⟨_, rfl, OwnE.nil _ _, hb⟩
      have k3 : n ≤ x2 := by omega
      clear hok'
      go_enter Try.func13, Try.ntmps13
      go_wp2_with (go_at_call 35; refine (HVA.out _ HB0.out.low).mono ?_; rintro e w1 ⟨rfl, hb⟩; refine Hid.out ?_)
      refine Nu.hid ?_
      have HB1 := Nu.hid (HB0.out.later hb)
      clear hb
      obtain ⟨g0, g1⟩ := HB1.out.cells
      obtain ⟨t0, t1⟩ := HB1.out.cells2
      have hs1 := HB1.out.size
      go_wp2_with (go_at_call 36; refine (HRF.out _ _).mono ?_; rintro e w2 ⟨rfl, hb⟩; have HB2 := Nu.hid (HB1.out.later hb); clear hb; obtain ⟨r0, r1⟩ := HB2.out.rcells; have f0 := HB2.out.free 0; have f1 := HB2.out.free 1)
      obtain ⟨hb, s0, s1⟩ := HB2.out.store (.int .i64 0) (.slice none 0 0)
      refine bodyPost_ret (v := .tuple #[.agg #[.int .i64 0, .slice none 0 0], .int .i64 2]) (by simp [results, Try.results13, go_sem, s0, s1]) rfl ?_
      exact ⟨_, rfl, OwnE.nil _ _, hb⟩

end Go.Proofs.Ytdkckdbpbdhoaaa
