/-
  The program's Divide.
-/
import Derived.Test.YtdkckdbpbdhoaaaEdW2
namespace Go.Proofs.Ytdkckdbpbdhoaaa
open Go.RowKit Go.Sort

theorem four_cells14 {w : World} {b : Nat} {t : TypeId} {x y z u : Value} (h : w.heap[b]? = some (.cells #[x, y, z, u] t (0, 0))) : w.cell? ⟨b, 0, none⟩ = some x ∧ w.cell? ⟨b, 1, none⟩ = some y ∧ w.cell? ⟨b, 2, none⟩ = some z ∧ w.cell? ⟨b, 3, none⟩ = some u := by
  simp [World.cell?, h]

theorem edges_two (W : World) (x y z u : Int) : EdgesAt (W.alloc (.cells #[.int .i64 x, .int .i64 y, .int .i64 z, .int .i64 u] 26)).drew (some ⟨W.heap.size, 0, none⟩) [(x, y), (z, u)] := by
  intro j p hj
  have h : (W.alloc (.cells #[.int .i64 x, .int .i64 y, .int .i64 z, .int .i64 u] 26)).drew.heap[W.heap.size]? = some (.cells #[.int .i64 x, .int .i64 y, .int .i64 z, .int .i64 u] 26 (0, 0)) := heap_alloc_new W _
  obtain ⟨c0, c1, c2, c3⟩ := four_cells14 h
  match j with
  | 0 =>
    simp at hj
    subst hj
    exact ⟨_, 0, rfl, c0, c1⟩
  | 1 =>
    simp at hj
    subst hj
    exact ⟨_, 0, rfl, c2, c3⟩
  | j + 2 => simp at hj

theorem heap_new1 (W : World) (o o' : Obj) : ((W.alloc o).alloc o').heap[W.heap.size + 1]? = some o' := by
  have := heap_alloc_new (W.alloc o) o'
  simpa using this

set_option maxRecDepth 100000 in
set_option maxHeartbeats 8000000 in
theorem edivide_any (n : Int) (e : Int) (ao : Option Addr) (cap : Nat) (es : List (Int × Int)) (w : World) (he : EdgesAt w ao es) (hl : es.length ≤ 4611686018427387904) :
    Calls Try.prog 15 #[graphVal n ao es.length cap, .int .i64 e] w (AnsP (Ed.divide n es e) w) := by
  have HE := Nu.hid he
  have hva := fun W (hb : Below w.heap.size w W) => valid_any n ao cap es W (he.later hb) hl
  have hB0 := Bx1.start (w := w) (n := n) (ao := ao) (cap := cap) (es := es)
  unfold graphVal at hva ⊢
  have HVA := Nu.hid hva
  have HB0 := Nu.hid hB0
  have HRF := Nu.hid refuse_any
  clear he hva hB0
  cases hv : Si.valid n es with
  | false =>
    have hr : Ed.divide n es e = (0, [], 1) := by unfold Ed.divide; rw [if_pos hv]
    rw [hr]
    rw [hv] at HVA
    clear hv hr
    go_enter Try.func15, Try.ntmps15
    go_wp2_with (go_at_call 35; refine (HVA.out _ HB0.out.low).mono ?_; rintro e w1 ⟨rfl, hb⟩; refine Hid.out ?_)
    refine Nu.hid ?_
    have HB1 := Nu.hid (HB0.out.later hb)
    clear hb
    obtain ⟨g0, g1⟩ := HB1.out.cells
    have hs1 := HB1.out.size
    have hs0 : w.heap.size < w1.heap.size := by omega
    go_wp2_with (go_at_call 36; refine (HRF.out _ _).mono ?_; rintro e w2 ⟨rfl, hb⟩; have HB2 := Nu.hid (HB1.out.later hb); clear hb; obtain ⟨r0, r1⟩ := HB2.out.rcells; have f0 := HB2.out.free 0; have f1 := HB2.out.free 1)
    obtain ⟨hb, s0, s1⟩ := HB2.out.store (.int .i64 0) (.slice none 0 0)
    refine bodyPost_ret (v := .tuple #[.agg #[.int .i64 0, .slice none 0 0], .int .i64 1]) (by simp [results, Try.results15, go_sem, s0, s1]) rfl ?_
    exact ⟨_, rfl, OwnE.nil _ _, hb⟩
  | true =>
    have hval := Si.valid_iff.1 hv
    have hfew := hval.few
    have hlo := hval.lo
    have hhi := hval.hi
    have HVAL := Nu.hid hval
    have HV := Nu.hid hv
    rw [hv] at HVA
    clear hv hval
    by_cases hin : 0 ≤ e ∧ e < (es.length : Int)
    · obtain ⟨k, rfl⟩ : ∃ k : Nat, e = (k : Int) := ⟨e.toNat, by omega⟩
      have hkl : k < es.length := by omega
      have hk0 : (0 : Int) ≤ (k : Int) := by omega
      have hk1 : (k : Int) < (es.length : Int) := hin.2
      by_cases hbn : 1048576 ≤ n
      · have hr : Ed.divide n es (k : Int) = (0, [], 141) := by
          unfold Ed.divide
          rw [if_neg (by rw [HV.out]; simp), if_neg (by omega), if_pos (.inl hbn)]
        rw [hr]
        clear hr hin
        go_enter Try.func15, Try.ntmps15
        go_wp2_with (go_at_call 35; refine (HVA.out _ HB0.out.low).mono ?_; rintro e w1 ⟨rfl, hb⟩; refine Hid.out ?_)
        refine Nu.hid ?_
        have HB1 := Nu.hid (HB0.out.later hb)
        clear hb
        obtain ⟨g0, g1⟩ := HB1.out.cells
        have hs1 := HB1.out.size
        have hs0 : w.heap.size < w1.heap.size := by omega
        go_wp2_with (first
          | (go_at_call 37; refine (isnum_yes hk0 hk1 _).mono ?_; rintro e w2 ⟨rfl, rfl⟩)
          | (go_at_call 36; refine (HRF.out _ _).mono ?_; rintro e w2 ⟨rfl, hb⟩; have HB2 := Nu.hid (HB1.out.later hb); clear hb; obtain ⟨r0, r1⟩ := HB2.out.rcells; have f0 := HB2.out.free 0; have f1 := HB2.out.free 1))
        obtain ⟨hb, s0, s1⟩ := HB2.out.store (.int .i64 0) (.slice none 0 0)
        refine bodyPost_ret (v := .tuple #[.agg #[.int .i64 0, .slice none 0 0], .int .i64 141]) (by simp [results, Try.results15, go_sem, s0, s1]) rfl ?_
        exact ⟨_, rfl, OwnE.nil _ _, hb⟩
      by_cases hbe : 4194304 ≤ es.length
      · have hr : Ed.divide n es (k : Int) = (0, [], 141) := by
          unfold Ed.divide
          rw [if_neg (by rw [HV.out]; simp), if_neg (by omega), if_pos (.inr hbe)]
        rw [hr]
        have hbi : (4194304 : Int) ≤ (es.length : Int) := by omega
        clear hr hin
        go_enter Try.func15, Try.ntmps15
        go_wp2_with (go_at_call 35; refine (HVA.out _ HB0.out.low).mono ?_; rintro e w1 ⟨rfl, hb⟩; refine Hid.out ?_)
        refine Nu.hid ?_
        have HB1 := Nu.hid (HB0.out.later hb)
        clear hb
        obtain ⟨g0, g1⟩ := HB1.out.cells
        have hs1 := HB1.out.size
        have hs0 : w.heap.size < w1.heap.size := by omega
        go_wp2_with (first
          | (go_at_call 37; refine (isnum_yes hk0 hk1 _).mono ?_; rintro e w2 ⟨rfl, rfl⟩)
          | (go_at_call 36; refine (HRF.out _ _).mono ?_; rintro e w2 ⟨rfl, hb⟩; have HB2 := Nu.hid (HB1.out.later hb); clear hb; obtain ⟨r0, r1⟩ := HB2.out.rcells; have f0 := HB2.out.free 0; have f1 := HB2.out.free 1))
        obtain ⟨hb, s0, s1⟩ := HB2.out.store (.int .i64 0) (.slice none 0 0)
        refine bodyPost_ret (v := .tuple #[.agg #[.int .i64 0, .slice none 0 0], .int .i64 141]) (by simp [results, Try.results15, go_sem, s0, s1]) rfl ?_
        exact ⟨_, rfl, OwnE.nil _ _, hb⟩
      have hbi : ¬ ((4194304 : Int) ≤ (es.length : Int)) := by omega
      obtain ⟨x, hx⟩ : ∃ x, es[k]? = some x := ⟨_, List.getElem?_eq_getElem hkl⟩
      obtain ⟨x1, x2⟩ := x
      obtain ⟨R, hR⟩ : ∃ R, es.erase (x1, x2) = R := ⟨_, rfl⟩
      have hRl : R.length ≤ es.length := by rw [← hR]; exact List.length_erase_le
      have hr : Ed.divide n es (k : Int) = (n + 1, Ed.mrg R [(x1, n), (x2, n)], 0) := by
        have hok := HVAL.out.each k _ hx
        unfold Si.ok at hok
        dsimp only at hok
        have hg : es.getD k (0, 0) = (x1, x2) := by rw [List.getD_eq_getElem?_getD, hx]; rfl
        unfold Ed.divide
        rw [if_neg (by rw [HV.out]; simp), if_neg (by omega), if_neg (by omega), Int.toNat_natCast, hg, ← hR, Ed.erase_at HVAL.out hx]
        rw [Ed.mrg_two (Ed.erase_sorted (Ed.sorted_of_val HVAL.out) k) (fun h => Ed.val_no_n HVAL.out _ (List.mem_of_mem_eraseIdx h)) (fun h => Ed.val_no_n HVAL.out _ (List.mem_of_mem_eraseIdx h)) (.inl hok.2.1)]
      rw [hr]
      have HX := Nu.hid hx
      have HR := Nu.hid hR
      obtain ⟨b, o, rfl, hcc, _⟩ := HE.out k _ hx
      have hbw : b < w.heap.size := block_lt_of_cell hcc
      have HC : Hid (∀ W, Below w.heap.size w W → W.cell? ⟨b, o + k * 2, none⟩ = some (.int .i64 x1) ∧ W.cell? ⟨b, o + k * 2 + 1, none⟩ = some (.int .i64 x2)) := fun W hb => by
        obtain ⟨b', o', e', c0, c1⟩ := (HE.out.later hb) k _ HX.out
        cases e'
        exact ⟨c0, c1⟩
      have hdr := fun W gb (hb : Below w.heap.size w W) hg => drop_any (some ⟨b, o, none⟩) cap gb es (x1, x2) W (HE.out.later hb) hfew (by omega) hg
      rw [hR] at hdr
      dsimp only at hdr
      have HDR := Nu.hid hdr
      have hbnd : decide ((1048576 : Int) ≤ n) = false := by simp; omega
      have hsuc : IntKind.i64.wrap (n + 1) = n + 1 := wrap_small _ (by omega) (by omega)
      have hbid : decide ((4194304 : Int) ≤ (es.length : Int)) = false := by simp; omega
      have HEL : Hid (es.length ≤ 4194304) := hfew
      clear hdr hr hin hx hcc hR hhi hbn hlo hbi hbe hfew hl
      go_enter Try.func15, Try.ntmps15
      go_wp2_with (go_at_call 35; refine (HVA.out _ HB0.out.low).mono ?_; rintro e w1 ⟨rfl, hb⟩; refine Hid.out ?_)
      refine Nu.hid ?_
      have HB1 := Nu.hid (HB0.out.later hb)
      clear hb
      obtain ⟨g0, g1⟩ := HB1.out.cells
      have hs1 := HB1.out.size
      have hs0 : w.heap.size < w1.heap.size := by omega
      obtain ⟨c0, c1⟩ := HC.out _ HB1.out.low
      have hbl : b < w1.heap.size := block_lt_of_cell c0
      go_wp2_with (first
        | (go_at_call 37; refine (isnum_yes hk0 hk1 _).mono ?_; rintro e w2 ⟨rfl, rfl⟩)
        | (go_at_call 38; refine (HDR.out _ (w2.heap.size + 1) ((HB1.out.low.alloc (by omega) _).alloc (by simp; omega) _) (heap_new1 w2 _ _)).mono ?_; rintro e w3 ⟨v, rfl, hown, hb3'⟩; refine Hid.out ?_))
      refine Nu.hid ?_
      have hb3 : Below w2.heap.size w2 w3 := (((Below.refl w2.heap.size w2).alloc (Nat.le_refl _) _).alloc (by simp) _).trans (hb3'.mono (by simp; omega))
      have HOLD : Hid (w3.heap[w2.heap.size]? = some (.cells #[.int .i64 x1, .int .i64 x2] 26 (0, 0))) := by
        refine (hb3'.block _ (by simp; omega)).trans ?_
        rw [Below.heap_alloc _ _ _ (by simp)]
        exact heap_alloc_new w2 _
      have HB3 := Nu.hid (HB1.out.later hb3)
      obtain ⟨va, vc, rfl, hvl, hvm, hve, -⟩ := hown.form
      have HVE := Nu.hid hve
      clear hb3 hb3' hown hve g0 g1 c0 c1
      obtain ⟨g0, g1⟩ := HB3.out.cells
      obtain ⟨o0, o1, -⟩ := pair_cells HOLD.out
      have hs3 := HB3.out.size
      have hs30 : w.heap.size < w3.heap.size := by omega
      have hol := lt_of_block HOLD.out
      have hpt := fun W (mb : Nat) (hb : Below w3.heap.size w3 W) (hm : EdgesAt W (some ⟨mb, 0, none⟩) [(x1, n), (x2, n)]) (hmb : mb < W.heap.size) => eput_any va vc mb 0 2 R [(x1, n), (x2, n)] W (HVE.out.later hb) hm (by have := HEL.out; omega) (by simp) (by simp) (by omega) hmb
      simp only [List.length_cons, List.length_nil, Nat.zero_add] at hpt
      have HPT := Nu.hid hpt
      clear hpt
      go_wp2
      go_region_held3 (fun w' => w'.cell? ⟨w.heap.size, 0, none⟩ = some (.int .i64 n) ∧ w'.cell? ⟨w2.heap.size, 0, none⟩ = some (.int .i64 x1) ∧ w'.cell? ⟨w2.heap.size, 1, none⟩ = some (.int .i64 x2))
        (first
          | (go_keep; done)
          | (go_split_ands
             (try dsimp only); (repeat' apply And.intro) <;> (refine (hb3.cell (p := ⟨_, _, none⟩) ?_).trans ?_ <;> first | assumption | (simp; omega)))
          | (go_split_ands
             (try dsimp only); (repeat' apply And.intro) <;> (refine (hb4.cell (p := ⟨_, _, none⟩) ?_).trans ?_ <;> first | assumption | (simp; omega)))
          | (go_split_ands; (try dsimp only); (repeat' apply And.intro) <;> (refine (cell_put2 ?_ _ _).trans ?_ <;> first | assumption | omega | (simp; done))))
        ((go_at_call 41; refine (HPT.out _ w3.heap.size ((Below.refl _ _).alloc (Nat.le_refl _) _).drew (edges_two w3 x1 n x2 n) (by simp)).mono ?_; rintro e w4 ⟨v, rfl, hown, hb4'⟩; have hb4 : Below w3.heap.size w3 w4 := ((Below.refl w3.heap.size w3).alloc (Nat.le_refl _) _).drew.trans (hb4'.mono (by simp)); have hown2 : OwnE w4 w.heap.size v (Ed.mrg R [(x1, n), (x2, n)]) := hown.lower (by simp; omega); obtain ⟨va, vc, rfl, -, -, -, -⟩ := hown.form; have HB4 := Nu.hid (HB3.out.later hb4); obtain ⟨r0, r1⟩ := HB4.out.rcells; have f0 := HB4.out.free 0; have f1 := HB4.out.free 1))
      have HOWN := Nu.hid hown2
      have HFAR := Nu.hid (hown.far (b := w.heap.size + 1) (by simp; omega))
      clear hown2 hown hb4 hb4'
      go_wp2
      obtain ⟨hb, s0, s1⟩ := HB4.out.store (.int .i64 (n + 1)) (.slice va (Ed.mrg R [(x1, n), (x2, n)]).length vc)
      refine bodyPost_ret (v := .tuple #[.agg #[.int .i64 (n + 1), .slice va (Ed.mrg R [(x1, n), (x2, n)]).length vc], .int .i64 0]) (by simp [results, Try.results15, go_sem, s0, s1]) rfl ?_
      exact ⟨_, rfl, own_put2 HOWN.out HFAR.out _ _, hb⟩
    · have hr : Ed.divide n es e = (0, [], 2) := by
        unfold Ed.divide
        rw [if_neg (by rw [HV.out]; simp), if_pos (by omega)]
      rw [hr]
      have HOUT : Hid (e < 0 ∨ (es.length : Int) ≤ e) := Nu.hid (by omega)
      clear hin hr
      go_enter Try.func15, Try.ntmps15
      go_wp2_with (go_at_call 35; refine (HVA.out _ HB0.out.low).mono ?_; rintro e w1 ⟨rfl, hb⟩; refine Hid.out ?_)
      refine Nu.hid ?_
      have HB1 := Nu.hid (HB0.out.later hb)
      clear hb
      obtain ⟨g0, g1⟩ := HB1.out.cells
      have hs1 := HB1.out.size
      have hs0 : w.heap.size < w1.heap.size := by omega
      go_wp2_with (first
        | (go_at_call 37; refine (isnum_no HOUT.out _).mono ?_; rintro e w2 ⟨rfl, rfl⟩)
        | (go_at_call 36; refine (HRF.out _ _).mono ?_; rintro e w2 ⟨rfl, hb⟩; have HB2 := Nu.hid (HB1.out.later hb); clear hb; obtain ⟨r0, r1⟩ := HB2.out.rcells; have f0 := HB2.out.free 0; have f1 := HB2.out.free 1))
      obtain ⟨hb, s0, s1⟩ := HB2.out.store (.int .i64 0) (.slice none 0 0)
      refine bodyPost_ret (v := .tuple #[.agg #[.int .i64 0, .slice none 0 0], .int .i64 2]) (by simp [results, Try.results15, go_sem, s0, s1]) rfl ?_
      exact ⟨_, rfl, OwnE.nil _ _, hb⟩

end Go.Proofs.Ytdkckdbpbdhoaaa
