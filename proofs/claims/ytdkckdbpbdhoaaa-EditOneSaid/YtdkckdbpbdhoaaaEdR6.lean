/-
  The document's own Divide.
-/
import Derived.Test.YtdkckdbpbdhoaaaEdR4
namespace Go.Proofs.Ytdkckdbpbdhoaaa
open Go.RowKit Go.Sort

theorem edges_cut1 {w : World} {b o cap k : Nat} {es : List (Int × Int)} (hk : ¬ cap = k) (h : EdgesAt w (some ⟨b, o, none⟩) es) (hc : es.length ≤ cap) : EdgesAt w (some ⟨b, o + k * 2, none⟩) (es.drop k) := by
  have := edges_cut (k := k) h hc
  rw [if_neg hk] at this
  exact this
theorem edges_cut0 {w : World} {b o cap : Nat} {es : List (Int × Int)} (h : EdgesAt w (some ⟨b, o, none⟩) es) (hc : es.length ≤ cap) : EdgesAt w (some ⟨b, o, none⟩) (es.drop cap) := by
  have := edges_cut (k := cap) h hc
  rw [if_pos rfl] at this
  exact this

set_option maxRecDepth 100000 in
set_option maxHeartbeats 8000000 in
theorem rdivide_any (n : Int) (e : Int) (ao : Option Addr) (cap : Nat) (es : List (Int × Int)) (w : World) (he : EdgesAt w ao es) (hnil : NilOk ao es cap) (hl : es.length ≤ 4611686018427387904) (hcp : es.length ≤ cap) :
    Calls Try.prog 16 #[graphVal n ao es.length cap, .int .i64 e] w (AnsP (Ed.divide n es e) w) := by
  have HE := Nu.hid he
  have HNIL := Nu.hid hnil
  have hva := fun W (hb : Below w.heap.size w W) => rvalid_any n ao cap es W (he.later hb) hl
  have hB0 := Bx1.start (w := w) (n := n) (ao := ao) (cap := cap) (es := es)
  unfold graphVal at hva ⊢
  have HVA := Nu.hid hva
  have HB0 := Nu.hid hB0
  clear he hva hB0 hnil
  cases hv : Si.valid n es with
  | false =>
    have hr : Ed.divide n es e = (0, [], 1) := by unfold Ed.divide; rw [if_pos hv]
    rw [hr]
    rw [hv] at HVA
    clear hv hr
    go_enter Try.func16, Try.ntmps16
    go_wp2_with (go_at_call 33; refine (HVA.out _ HB0.out.low).mono ?_; rintro e w1 ⟨rfl, hb⟩; refine Hid.out ?_)
    refine Nu.hid ?_
    have HB1 := Nu.hid (HB0.out.later hb)
    clear hb
    obtain ⟨g0, g1⟩ := HB1.out.cells
    have hs1 := HB1.out.size
    have hs0 : w.heap.size < w1.heap.size := by omega
    obtain ⟨r0, r1⟩ := HB1.out.rcells
    have f0 := HB1.out.free 0
    have f1 := HB1.out.free 1
    go_wp2
    obtain ⟨hb, s0, s1⟩ := HB1.out.store (.int .i64 0) (.slice none 0 0)
    refine bodyPost_ret (v := .tuple #[.agg #[.int .i64 0, .slice none 0 0], .int .i64 1]) (by simp [results, Try.results16, go_sem, s0, s1]) rfl ?_
    exact ⟨_, rfl, OwnE.nil _ _, hb⟩
  | true =>
    have hval := Si.valid_iff.1 hv
    have hfew := hval.few
    have hlo := hval.lo
    have hhi := hval.hi
    have HVAL := Nu.hid hval
    have HV := Nu.hid hv
    rw [hv] at HVA
    clear hv hval
    by_cases hneg : e < 0
    · have hr : Ed.divide n es e = (0, [], 2) := by
        unfold Ed.divide
        rw [if_neg (by rw [HV.out]; simp), if_pos (.inl hneg)]
      rw [hr]
      clear hr
      go_enter Try.func16, Try.ntmps16
      go_wp2_with (go_at_call 33; refine (HVA.out _ HB0.out.low).mono ?_; rintro e w1 ⟨rfl, hb⟩; refine Hid.out ?_)
      refine Nu.hid ?_
      have HB1 := Nu.hid (HB0.out.later hb)
      clear hb
      obtain ⟨g0, g1⟩ := HB1.out.cells
      have hs1 := HB1.out.size
      have hs0 : w.heap.size < w1.heap.size := by omega
      obtain ⟨r0, r1⟩ := HB1.out.rcells
      have f0 := HB1.out.free 0
      have f1 := HB1.out.free 1
      go_wp2
      obtain ⟨hb, s0, s1⟩ := HB1.out.store (.int .i64 0) (.slice none 0 0)
      refine bodyPost_ret (v := .tuple #[.agg #[.int .i64 0, .slice none 0 0], .int .i64 2]) (by simp [results, Try.results16, go_sem, s0, s1]) rfl ?_
      exact ⟨_, rfl, OwnE.nil _ _, hb⟩
    by_cases hbig : (es.length : Int) ≤ e
    · have hr : Ed.divide n es e = (0, [], 2) := by
        unfold Ed.divide
        rw [if_neg (by rw [HV.out]; simp), if_pos (.inr hbig)]
      rw [hr]
      clear hr
      go_enter Try.func16, Try.ntmps16
      go_wp2_with (go_at_call 33; refine (HVA.out _ HB0.out.low).mono ?_; rintro e w1 ⟨rfl, hb⟩; refine Hid.out ?_)
      refine Nu.hid ?_
      have HB1 := Nu.hid (HB0.out.later hb)
      clear hb
      obtain ⟨g0, g1⟩ := HB1.out.cells
      have hs1 := HB1.out.size
      have hs0 : w.heap.size < w1.heap.size := by omega
      obtain ⟨r0, r1⟩ := HB1.out.rcells
      have f0 := HB1.out.free 0
      have f1 := HB1.out.free 1
      go_wp2
      obtain ⟨hb, s0, s1⟩ := HB1.out.store (.int .i64 0) (.slice none 0 0)
      refine bodyPost_ret (v := .tuple #[.agg #[.int .i64 0, .slice none 0 0], .int .i64 2]) (by simp [results, Try.results16, go_sem, s0, s1]) rfl ?_
      exact ⟨_, rfl, OwnE.nil _ _, hb⟩
    obtain ⟨k, rfl⟩ : ∃ k : Nat, e = (k : Int) := ⟨e.toNat, by omega⟩
    have hkl : k < es.length := by omega
    have hk0 : (0 : Int) ≤ (k : Int) := by omega
    have hk1 : (k : Int) < (es.length : Int) := by omega
    have hnegd : decide ((k : Int) < 0) = false := by simp
    have hbigd : decide ((es.length : Int) ≤ (k : Int)) = false := by simp; omega
    have hbigd2 : decide (es.length ≤ k) = false := by simp; omega
    clear hneg
    by_cases hbn : 1048576 ≤ n
    · have hr : Ed.divide n es (k : Int) = (0, [], 141) := by
        unfold Ed.divide
        rw [if_neg (by rw [HV.out]; simp), if_neg (by omega), if_pos (.inl hbn)]
      rw [hr]
      have hbnd : decide ((1048576 : Int) ≤ n) = true := by simp; omega
      clear hr hbn hlo hhi hbig hfew hl
      go_enter Try.func16, Try.ntmps16
      go_wp2_with (go_at_call 33; refine (HVA.out _ HB0.out.low).mono ?_; rintro e w1 ⟨rfl, hb⟩; refine Hid.out ?_)
      refine Nu.hid ?_
      have HB1 := Nu.hid (HB0.out.later hb)
      clear hb
      obtain ⟨g0, g1⟩ := HB1.out.cells
      have hs1 := HB1.out.size
      have hs0 : w.heap.size < w1.heap.size := by omega
      obtain ⟨r0, r1⟩ := HB1.out.rcells
      have f0 := HB1.out.free 0
      have f1 := HB1.out.free 1
      go_wp2
      obtain ⟨hb, s0, s1⟩ := HB1.out.store (.int .i64 0) (.slice none 0 0)
      refine bodyPost_ret (v := .tuple #[.agg #[.int .i64 0, .slice none 0 0], .int .i64 141]) (by simp [results, Try.results16, go_sem, s0, s1]) rfl ?_
      exact ⟨_, rfl, OwnE.nil _ _, hb⟩
    have hbnd : decide ((1048576 : Int) ≤ n) = false := by simp; omega
    by_cases hbe : 4194304 ≤ es.length
    · have hr : Ed.divide n es (k : Int) = (0, [], 141) := by
        unfold Ed.divide
        rw [if_neg (by rw [HV.out]; simp), if_neg (by omega), if_pos (.inr hbe)]
      rw [hr]
      have hbid : decide ((4194304 : Int) ≤ (es.length : Int)) = true := by simp; omega
      clear hr hbn hbe hlo hhi hbig hfew hl
      go_enter Try.func16, Try.ntmps16
      go_wp2_with (go_at_call 33; refine (HVA.out _ HB0.out.low).mono ?_; rintro e w1 ⟨rfl, hb⟩; refine Hid.out ?_)
      refine Nu.hid ?_
      have HB1 := Nu.hid (HB0.out.later hb)
      clear hb
      obtain ⟨g0, g1⟩ := HB1.out.cells
      have hs1 := HB1.out.size
      have hs0 : w.heap.size < w1.heap.size := by omega
      obtain ⟨r0, r1⟩ := HB1.out.rcells
      have f0 := HB1.out.free 0
      have f1 := HB1.out.free 1
      go_wp2
      obtain ⟨hb, s0, s1⟩ := HB1.out.store (.int .i64 0) (.slice none 0 0)
      refine bodyPost_ret (v := .tuple #[.agg #[.int .i64 0, .slice none 0 0], .int .i64 141]) (by simp [results, Try.results16, go_sem, s0, s1]) rfl ?_
      exact ⟨_, rfl, OwnE.nil _ _, hb⟩
    have hbid : decide ((4194304 : Int) ≤ (es.length : Int)) = false := by simp; omega
    obtain ⟨x, hx⟩ : ∃ x, es[k]? = some x := ⟨_, List.getElem?_eq_getElem hkl⟩
    obtain ⟨x1, x2⟩ := x
    have hok := HVAL.out.each k _ hx
    unfold Si.ok at hok
    dsimp only at hok
    obtain ⟨R, hR⟩ : ∃ R, es.take k ++ es.drop (k + 1) = R := ⟨_, rfl⟩
    have hRe : es.eraseIdx k = R := by rw [List.eraseIdx_eq_take_drop_succ, hR]
    have hRs : R.Pairwise Si.lt := by rw [← hRe]; exact Ed.erase_sorted (Ed.sorted_of_val HVAL.out) k
    have hRn : ∀ u, (u, n) ∉ R := fun u h => by rw [← hRe] at h; exact Ed.val_no_n HVAL.out _ (List.mem_of_mem_eraseIdx h)
    have hRl : R.length ≤ 4194304 := by rw [← hRe]; exact Nat.le_trans (List.length_eraseIdx_le _ _) hfew
    obtain ⟨R1, hR1⟩ : ∃ R1, Si.put R (x1, n) = R1 := ⟨_, rfl⟩
    obtain ⟨R2, hR2⟩ : ∃ R2, Si.put R1 (x2, n) = R2 := ⟨_, rfl⟩
    have hR1l : R1.length ≤ 4194305 := by rw [← hR1]; have := (Si.put_length R (x1, n)).2; omega
    have hr : Ed.divide n es (k : Int) = (n + 1, R2, 0) := by
      have hg : es.getD k (0, 0) = (x1, x2) := by rw [List.getD_eq_getElem?_getD, hx]; rfl
      unfold Ed.divide
      rw [if_neg (by rw [HV.out]; simp), if_neg (by omega), if_neg (by omega), Int.toNat_natCast, hg, hRe, hR1, hR2]
    rw [hr]
    have hn1 : Si.norm (x1, n) = (x1, n) := by unfold Si.norm; ext <;> simp <;> omega
    have hn2 : Si.norm (x2, n) = (x2, n) := by unfold Si.norm; ext <;> simp <;> omega
    have HP1 : Hid (∀ (W : World) (B : Nat) (v : Value), OwnE W B v R → B ≤ W.heap.size → Calls Try.prog 42 #[v, .int .i64 x1, .int .i64 n] W fun e w' => ∃ v', e = .returned v' ∧ OwnE w' B v' R1 ∧ Below B W w') := fun W B v ho hB => by
      have := rput_any B v R x1 n W ho hB (by omega) hRs (by rw [hn1]; exact hRn _)
      rw [hn1, hR1] at this
      exact this
    have HP2 : Hid (∀ (W : World) (B : Nat) (v : Value), OwnE W B v R1 → B ≤ W.heap.size → Calls Try.prog 42 #[v, .int .i64 x2, .int .i64 n] W fun e w' => ∃ v', e = .returned v' ∧ OwnE w' B v' R2 ∧ Below B W w') := fun W B v ho hB => by
      have := rput_any B v R1 x2 n W ho hB (by omega) (by rw [← hR1]; exact Si.put_sorted _ _ hRs) (by
        rw [hn2, ← hR1, Si.mem_put]
        rintro (h | h)
        · have := congrArg Prod.fst h
          dsimp only at this
          omega
        · exact hRn _ h)
      rw [hn2, hR2] at this
      exact this
    obtain ⟨b, o, rfl, hcc, _⟩ := HE.out k _ hx
    have hbw : b < w.heap.size := block_lt_of_cell hcc
    have HC : Hid (∀ W, Below w.heap.size w W → W.cell? ⟨b, o + k * 2, none⟩ = some (.int .i64 x1) ∧ W.cell? ⟨b, o + k * 2 + 1, none⟩ = some (.int .i64 x2)) := fun W hb => by
      obtain ⟨b', o', e', c0, c1⟩ := (HE.out.later hb) k _ hx
      cases e'
      exact ⟨c0, c1⟩
    have htl : (es.take k).length = k := by rw [List.length_take]; omega
    have hkp := fun W (hb : Below w.heap.size w W) => kept_any (some ⟨b, o, none⟩) k cap (es.take k) W htl ((HE.out.later hb).fst k) (fun h => by cases h) (by omega)
    have HKP := Nu.hid hkp
    have hsuc : IntKind.i64.wrap (n + 1) = n + 1 := wrap_small _ (by omega) (by omega)
    obtain ⟨k1, hk1e⟩ : ∃ k1 : Nat, (k : Int) + 1 = (k1 : Int) := ⟨k + 1, by omega⟩
    have hk1n : k + 1 = k1 := by omega
    have hw1 : IntKind.i64.wrap (k1 : Int) = (k1 : Int) := wrap_small _ (by omega) (by omega)
    have hle0 : (0 : Int) ≤ (k1 : Int) := by omega
    have hle1 : (k1 : Int) ≤ (es.length : Int) := by omega
    have hle2 : (es.length : Int) ≤ (cap : Int) := by omega
    have hle3 : (k1 : Int) ≤ (cap : Int) := by omega
    have HRK : Hid (es.take k ++ es.drop k1 = R) := by rw [← hk1n]; exact hR
    have HEL : Hid (es.length ≤ 4194304 ∧ es.length ≤ cap ∧ k < es.length) := ⟨hfew, hcp, hkl⟩
    have HED : Hid (∀ W, Below w.heap.size w W → EdgesAt W (some ⟨b, o, none⟩) es) := fun W hb => HE.out.later hb
    clear hr hx hcc hkp hR hRe hRs hRn hR1 hR2 hn1 hn2 hlo hhi hbn hbe hbig hfew hl hok hk1n htl hRl hR1l
    go_enter Try.func16, Try.ntmps16
    go_wp2_with (go_at_call 33; refine (HVA.out _ HB0.out.low).mono ?_; rintro e w1 ⟨rfl, hb⟩; refine Hid.out ?_)
    refine Nu.hid ?_
    have HB1 := Nu.hid (HB0.out.later hb)
    clear hb
    obtain ⟨g0, g1⟩ := HB1.out.cells
    have hs1 := HB1.out.size
    have hs0 : w.heap.size < w1.heap.size := by omega
    obtain ⟨r0, r1⟩ := HB1.out.rcells
    have f0 := HB1.out.free 0
    have f1 := HB1.out.free 1
    go_wp2_with (go_at_call 39; refine (HKP.out _ HB1.out.low).mono ?_; rintro e w3 ⟨ka, kc, rfl, hown, hb3⟩; refine Hid.out ?_)
    refine Nu.hid ?_
    have HB3 := Nu.hid (HB1.out.later hb3)
    have HKO := Nu.hid hown
    have hs3 := HB3.out.size
    have hs13 : w1.heap.size ≤ w3.heap.size := hb3.size
    clear hown hb3 g0 g1 r0 r1 f0 f1
    obtain ⟨g0, g1⟩ := HB3.out.cells
    have hs30 : w.heap.size < w3.heap.size := by omega
    by_cases hcz : cap = k1
    · subst hcz
      go_wp2_with (at_builtin; refine wpList_extendE rfl _ _ rfl _ w1.heap.size (.slice ka k kc) (es.take k) (es.drop cap) HKO.out ⟨b, o, none⟩ _ 0 (by have := HEL.out; rw [List.length_drop]; omega) (edges_cut0 (HED.out _ HB3.out.low) HEL.out.2.1) hs13 (by have := HEL.out; rw [List.length_take, List.length_drop]; omega) rfl (by first | rfl | (simp; done)) ?_; refine Hid.out ?_)
      refine Nu.hid ?_
      intro v w4 hown hb4
      rw [HRK.out] at hown
      have HO4 := Nu.hid hown
      have HB4 := Nu.hid (HB3.out.below hb4 hs1)
      have hs14 : w1.heap.size ≤ w4.heap.size := Nat.le_trans hs13 hb4.size
      obtain ⟨qa, qc, rfl, -, -, -, -⟩ := hown.form
      clear hown hb4 g0 g1 hs30
      obtain ⟨g0, g1⟩ := HB4.out.cells
      obtain ⟨c0, c1⟩ := HC.out _ HB4.out.low
      have hs40 : w.heap.size < w4.heap.size := by omega
      have hbl4 : b < w4.heap.size := by omega
      have HPA := Nu.hid (HP1.out w4.drew w1.heap.size (.slice qa R.length qc) HO4.out (by simp; omega))
      go_wp2
      go_region_held3 (fun w' => w'.cell? ⟨w.heap.size, 0, none⟩ = some (.int .i64 n) ∧ w'.cell? ⟨w.heap.size, 1, none⟩ = some (.slice (some ⟨b, o, none⟩) es.length cap) ∧ w'.cell? ⟨b, o + k * 2, none⟩ = some (.int .i64 x1))
        (first
          | (go_keep; done)
          | (go_split_ands
             (try dsimp only); (repeat' apply And.intro) <;> (refine (hbp.cell (p := ⟨_, _, none⟩) ?_).trans ?_ <;> first | assumption | omega | (simp; omega))))
        ((go_at_call 42; refine ((HPA).out.mono ?_); rintro e w5 ⟨v, rfl, hownp, hbp'⟩; have hbp : Below w1.heap.size w4 w5 := (Below.refl w1.heap.size w4).drew.trans hbp'; obtain ⟨va, vc, rfl, -, -, -, -⟩ := hownp.form))
      have HO5 := Nu.hid hownp
      have HB5 := Nu.hid (HB4.out.below hbp hs1)
      have hs15 : w1.heap.size ≤ w5.heap.size := Nat.le_trans hs14 hbp.size
      clear hownp hbp hbp' g0 g1 c0 c1 hs40 hbl4
      obtain ⟨g0, g1⟩ := HB5.out.cells
      obtain ⟨c0, c1⟩ := HC.out _ HB5.out.low
      have hs50 : w.heap.size < w5.heap.size := by omega
      have hbl5 : b < w5.heap.size := by omega
      have HPB := Nu.hid (HP2.out w5.drew w1.heap.size (.slice va R1.length vc) HO5.out (by simp; omega))
      rename Option Addr => va1
      rename Nat => vc1
      go_wp2
      go_region_held3 (fun w' => w'.cell? ⟨w.heap.size, 0, none⟩ = some (.int .i64 n) ∧ w'.cell? ⟨w.heap.size, 1, none⟩ = some (.slice (some ⟨b, o, none⟩) es.length cap) ∧ w'.cell? ⟨b, o + k * 2 + 1, none⟩ = some (.int .i64 x2))
        (first
          | (go_keep; done)
          | (go_split_ands
             (try dsimp only); (repeat' apply And.intro) <;> (refine (hbp.cell (p := ⟨_, _, none⟩) ?_).trans ?_ <;> first | assumption | omega | (simp; omega))))
        ((go_at_call 42; refine ((HPB).out.mono ?_); rintro e w6 ⟨v, rfl, hownp, hbp'⟩; have hbp : Below w1.heap.size w5 w6 := (Below.refl w1.heap.size w5).drew.trans hbp'; obtain ⟨va, vc, rfl, -, -, -, -⟩ := hownp.form))
      have HOWN : Hid (OwnE w6 w.heap.size (.slice va R2.length vc) R2) := hownp.lower (by omega)
      have HFAR := Nu.hid (hownp.far (b := w.heap.size + 1) (by omega))
      have HB6 := Nu.hid (HB5.out.below hbp hs1)
      clear hownp hbp hbp' g0 g1 c0 c1
      obtain ⟨g0, g1⟩ := HB6.out.cells
      obtain ⟨r0, r1⟩ := HB6.out.rcells
      have f0 := HB6.out.free 0
      have f1 := HB6.out.free 1
      go_wp2
      all_goals
        obtain ⟨hb, s0, s1⟩ := HB6.out.store (.int .i64 (n + 1)) (.slice va R2.length vc)
        refine bodyPost_ret (v := .tuple #[.agg #[.int .i64 (n + 1), .slice va R2.length vc], .int .i64 0]) (by simp [results, Try.results16, go_sem, s0, s1]) rfl ?_
        exact ⟨_, rfl, own_put2 HOWN.out HFAR.out _ _, hb⟩
    · skip
      go_wp2_with (at_builtin; refine wpList_extendE rfl _ _ rfl _ w1.heap.size (.slice ka k kc) (es.take k) (es.drop k1) HKO.out ⟨b, o + k1 * 2, none⟩ _ (es.length - k1) (by rw [List.length_drop]) (edges_cut1 hcz (HED.out _ HB3.out.low) HEL.out.2.1) hs13 (by have := HEL.out; rw [List.length_take, List.length_drop]; omega) rfl (by first | rfl | (simp; done)) ?_; refine Hid.out ?_)
      refine Nu.hid ?_
      intro v w4 hown hb4
      rw [HRK.out] at hown
      have HO4 := Nu.hid hown
      have HB4 := Nu.hid (HB3.out.below hb4 hs1)
      have hs14 : w1.heap.size ≤ w4.heap.size := Nat.le_trans hs13 hb4.size
      obtain ⟨qa, qc, rfl, -, -, -, -⟩ := hown.form
      clear hown hb4 g0 g1 hs30
      obtain ⟨g0, g1⟩ := HB4.out.cells
      obtain ⟨c0, c1⟩ := HC.out _ HB4.out.low
      have hs40 : w.heap.size < w4.heap.size := by omega
      have hbl4 : b < w4.heap.size := by omega
      have HPA := Nu.hid (HP1.out w4.drew w1.heap.size (.slice qa R.length qc) HO4.out (by simp; omega))
      go_wp2
      go_region_held3 (fun w' => w'.cell? ⟨w.heap.size, 0, none⟩ = some (.int .i64 n) ∧ w'.cell? ⟨w.heap.size, 1, none⟩ = some (.slice (some ⟨b, o, none⟩) es.length cap) ∧ w'.cell? ⟨b, o + k * 2, none⟩ = some (.int .i64 x1))
        (first
          | (go_keep; done)
          | (go_split_ands
             (try dsimp only); (repeat' apply And.intro) <;> (refine (hbp.cell (p := ⟨_, _, none⟩) ?_).trans ?_ <;> first | assumption | omega | (simp; omega))))
        ((go_at_call 42; refine ((HPA).out.mono ?_); rintro e w5 ⟨v, rfl, hownp, hbp'⟩; have hbp : Below w1.heap.size w4 w5 := (Below.refl w1.heap.size w4).drew.trans hbp'; obtain ⟨va, vc, rfl, -, -, -, -⟩ := hownp.form))
      have HO5 := Nu.hid hownp
      have HB5 := Nu.hid (HB4.out.below hbp hs1)
      have hs15 : w1.heap.size ≤ w5.heap.size := Nat.le_trans hs14 hbp.size
      clear hownp hbp hbp' g0 g1 c0 c1 hs40 hbl4
      obtain ⟨g0, g1⟩ := HB5.out.cells
      obtain ⟨c0, c1⟩ := HC.out _ HB5.out.low
      have hs50 : w.heap.size < w5.heap.size := by omega
      have hbl5 : b < w5.heap.size := by omega
      have HPB := Nu.hid (HP2.out w5.drew w1.heap.size (.slice va R1.length vc) HO5.out (by simp; omega))
      rename Option Addr => va1
      rename Nat => vc1
      go_wp2
      go_region_held3 (fun w' => w'.cell? ⟨w.heap.size, 0, none⟩ = some (.int .i64 n) ∧ w'.cell? ⟨w.heap.size, 1, none⟩ = some (.slice (some ⟨b, o, none⟩) es.length cap) ∧ w'.cell? ⟨b, o + k * 2 + 1, none⟩ = some (.int .i64 x2))
        (first
          | (go_keep; done)
          | (go_split_ands
             (try dsimp only); (repeat' apply And.intro) <;> (refine (hbp.cell (p := ⟨_, _, none⟩) ?_).trans ?_ <;> first | assumption | omega | (simp; omega))))
        ((go_at_call 42; refine ((HPB).out.mono ?_); rintro e w6 ⟨v, rfl, hownp, hbp'⟩; have hbp : Below w1.heap.size w5 w6 := (Below.refl w1.heap.size w5).drew.trans hbp'; obtain ⟨va, vc, rfl, -, -, -, -⟩ := hownp.form))
      have HOWN : Hid (OwnE w6 w.heap.size (.slice va R2.length vc) R2) := hownp.lower (by omega)
      have HFAR := Nu.hid (hownp.far (b := w.heap.size + 1) (by omega))
      have HB6 := Nu.hid (HB5.out.below hbp hs1)
      clear hownp hbp hbp' g0 g1 c0 c1
      obtain ⟨g0, g1⟩ := HB6.out.cells
      obtain ⟨r0, r1⟩ := HB6.out.rcells
      have f0 := HB6.out.free 0
      have f1 := HB6.out.free 1
      go_wp2
      all_goals
        obtain ⟨hb, s0, s1⟩ := HB6.out.store (.int .i64 (n + 1)) (.slice va R2.length vc)
        refine bodyPost_ret (v := .tuple #[.agg #[.int .i64 (n + 1), .slice va R2.length vc], .int .i64 0]) (by simp [results, Try.results16, go_sem, s0, s1]) rfl ?_
        exact ⟨_, rfl, own_put2 HOWN.out HFAR.out _ _, hb⟩

end Go.Proofs.Ytdkckdbpbdhoaaa
