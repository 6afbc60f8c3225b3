/-
  The document's own Apex.
-/
import Derived.Test.YtdkckdbpbdhoaaaEdR2
import Derived.Test.YtdkckdbpbdhoaaaSiRValid
namespace Go.Proofs.Ytdkckdbpbdhoaaa
open Go.RowKit Go.Sort

set_option maxRecDepth 100000 in
set_option maxHeartbeats 8000000 in
theorem rapex_any (n : Int) (ao : Option Addr) (cap : Nat) (es : List (Int × Int)) (w : World) (he : EdgesAt w ao es) (hnil : NilOk ao es cap) (hl : es.length ≤ 4611686018427387904) :
    Calls Try.prog 18 #[graphVal n ao es.length cap] w (AnsP (Ed.apex n es) w) := by
  have HE := Nu.hid he
  have HNIL := Nu.hid hnil
  have hva := fun W (hb : Below w.heap.size w W) => rvalid_any n ao cap es W (he.later hb) hl
  have hB0 := Bx1.start (w := w) (n := n) (ao := ao) (cap := cap) (es := es)
  unfold graphVal at hva ⊢
  have HVA := Nu.hid hva
  have HB0 := Nu.hid hB0
  clear he hva hB0 hnil
  cases hv : Si.valid n es with
  | false =>
    have hr : Ed.apex n es = (0, [], 1) := by unfold Ed.apex; rw [if_pos hv]
    rw [hr]
    rw [hv] at HVA
    clear hv hr
    go_enter Try.func18, Try.ntmps18
    go_wp2_with (go_at_call 33; refine (HVA.out _ HB0.out.low).mono ?_; rintro e w1 ⟨rfl, hb⟩; refine Hid.out ?_)
    refine Nu.hid ?_
    have HB1 := Nu.hid (HB0.out.later hb)
    clear hb
    obtain ⟨g0, g1⟩ := HB1.out.cells
    have hs1 := HB1.out.size
    have hs0 : w.heap.size < w1.heap.size := by omega
    obtain ⟨r0, r1⟩ := HB1.out.rcells
    have f0 := HB1.out.free 0
    have f1 := HB1.out.free 1
    go_wp2
    obtain ⟨hb, s0, s1⟩ := HB1.out.store (.int .i64 0) (.slice none 0 0)
    refine bodyPost_ret (v := .tuple #[.agg #[.int .i64 0, .slice none 0 0], .int .i64 1]) (by simp [results, Try.results18, go_sem, s0, s1]) rfl ?_
    exact ⟨_, rfl, OwnE.nil _ _, hb⟩
  | true =>
    have hval := Si.valid_iff.1 hv
    have hfew := hval.few
    have hlo := hval.lo
    have hhi := hval.hi
    have HVAL := Nu.hid hval
    have HV := Nu.hid hv
    rw [hv] at HVA
    clear hv hval
    obtain ⟨m, rfl⟩ : ∃ m : Nat, n = (m : Int) := ⟨n.toNat, by omega⟩
    have hsum : IntKind.i64.wrap ((es.length : Int) + (m : Int)) = (es.length : Int) + (m : Int) := wrap_small _ (by omega) (by omega)
    by_cases hbn : (1048576 : Int) ≤ (m : Int)
    · have hr : Ed.apex (m : Int) es = (0, [], 141) := by
        unfold Ed.apex
        rw [if_neg (by rw [HV.out]; simp), if_pos (.inl hbn)]
      rw [hr]
      have hbnd : decide ((1048576 : Int) ≤ (m : Int)) = true := by simp; omega
      clear hr hbn hlo hhi hfew hl
      go_enter Try.func18, Try.ntmps18
      go_wp2_with (go_at_call 33; refine (HVA.out _ HB0.out.low).mono ?_; rintro e w1 ⟨rfl, hb⟩; refine Hid.out ?_)
      refine Nu.hid ?_
      have HB1 := Nu.hid (HB0.out.later hb)
      clear hb
      obtain ⟨g0, g1⟩ := HB1.out.cells
      have hs1 := HB1.out.size
      have hs0 : w.heap.size < w1.heap.size := by omega
      obtain ⟨r0, r1⟩ := HB1.out.rcells
      have f0 := HB1.out.free 0
      have f1 := HB1.out.free 1
      go_wp2
      obtain ⟨hb, s0, s1⟩ := HB1.out.store (.int .i64 0) (.slice none 0 0)
      refine bodyPost_ret (v := .tuple #[.agg #[.int .i64 0, .slice none 0 0], .int .i64 141]) (by simp [results, Try.results18, go_sem, s0, s1]) rfl ?_
      exact ⟨_, rfl, OwnE.nil _ _, hb⟩
    have hbnd : decide ((1048576 : Int) ≤ (m : Int)) = false := by simp; omega
    by_cases hbe : (4194304 : Int) < (es.length : Int) + (m : Int)
    · have hr : Ed.apex (m : Int) es = (0, [], 141) := by
        unfold Ed.apex
        rw [if_neg (by rw [HV.out]; simp), if_pos (.inr hbe)]
      rw [hr]
      have hbed : decide ((4194304 : Int) < (es.length : Int) + (m : Int)) = true := by simp; omega
      clear hr hbn hbe hlo hhi hfew hl
      go_enter Try.func18, Try.ntmps18
      go_wp2_with (go_at_call 33; refine (HVA.out _ HB0.out.low).mono ?_; rintro e w1 ⟨rfl, hb⟩; refine Hid.out ?_)
      refine Nu.hid ?_
      have HB1 := Nu.hid (HB0.out.later hb)
      clear hb
      obtain ⟨g0, g1⟩ := HB1.out.cells
      have hs1 := HB1.out.size
      have hs0 : w.heap.size < w1.heap.size := by omega
      obtain ⟨r0, r1⟩ := HB1.out.rcells
      have f0 := HB1.out.free 0
      have f1 := HB1.out.free 1
      go_wp2
      obtain ⟨hb, s0, s1⟩ := HB1.out.store (.int .i64 0) (.slice none 0 0)
      refine bodyPost_ret (v := .tuple #[.agg #[.int .i64 0, .slice none 0 0], .int .i64 141]) (by simp [results, Try.results18, go_sem, s0, s1]) rfl ?_
      exact ⟨_, rfl, OwnE.nil _ _, hb⟩
    have hbed : decide ((4194304 : Int) < (es.length : Int) + (m : Int)) = false := by simp; omega
    have HEL : Hid (es.length ≤ 4194304 ∧ m ≤ 1048576 ∧ es.length + m ≤ 4194304) := ⟨hfew, by omega, by omega⟩
    have hr : Ed.apex (m : Int) es = ((m : Int) + 1, Ed.spk (m : Int) es m, 0) := by
      unfold Ed.apex
      rw [if_neg (by rw [HV.out]; simp), if_neg (by omega)]
      simp
    rw [hr]
    have hkp := fun W (hb : Below w.heap.size w W) => kept_any ao es.length cap es W rfl (HE.out.later hb) HNIL.out (by omega)
    have HKP := Nu.hid hkp
    have hsuc : IntKind.i64.wrap ((m : Int) + 1) = (m : Int) + 1 := wrap_small _ (by omega) (by omega)
    clear hr hkp hbn hbe hlo hhi hfew hl
    go_enter Try.func18, Try.ntmps18
    go_wp2_with (go_at_call 33; refine (HVA.out _ HB0.out.low).mono ?_; rintro e w1 ⟨rfl, hb⟩; refine Hid.out ?_)
    refine Nu.hid ?_
    have HB1 := Nu.hid (HB0.out.later hb)
    clear hb
    obtain ⟨g0, g1⟩ := HB1.out.cells
    have hs1 := HB1.out.size
    have hs0 : w.heap.size < w1.heap.size := by omega
    obtain ⟨r0, r1⟩ := HB1.out.rcells
    have f0 := HB1.out.free 0
    have f1 := HB1.out.free 1
    go_wp2_with (go_at_call 39; refine (HKP.out _ HB1.out.low).mono ?_; rintro e w3 ⟨ka, kc, rfl, hown, hb3⟩; refine Hid.out ?_)
    refine Nu.hid ?_
    have HB3 := Nu.hid (HB1.out.later hb3)
    have HKO := Nu.hid hown
    have hs13 : w1.heap.size ≤ w3.heap.size := hb3.size
    clear hown hb3 g0 g1 r0 r1 f0 f1
    go_wp2
    go_loopw [4, 5] (fun v c wr => ∃ (j : Nat) (L : List (Int × Int)), j ≤ m ∧ c = .int .i64 j ∧ L = Ed.spk (m : Int) es j ∧ OwnE wr w1.heap.size v L ∧ Bx1 w (m : Int) ao cap es wr ∧ w1.heap.size ≤ wr.heap.size) (fun _ c _ => m - (intOf c).toNat)
    case atStart => exact ⟨0, es, Nat.zero_le _, rfl, rfl, HKO.out, HB3.out, hs13⟩
    case round =>
      obtain ⟨j, L, hj, rfl, hL, hrow, hbx, hw1⟩ := hrel
      have HROW := Nu.hid hrow
      have HBX := Nu.hid hbx
      have HL := Nu.hid hL
      obtain ⟨g0, g1⟩ := hbx.cells
      have hsx := hbx.size
      have hsx0 : w.heap.size < wr.heap.size := by omega
      by_cases hlt : j < m
      · have hlti : (j : Int) < (m : Int) := by omega
        have hnj : Si.norm ((j : Int), (m : Int)) = ((j : Int), (m : Int)) := by unfold Si.norm; ext <;> simp <;> omega
        have hLl : L.length ≤ 4194304 + 1048576 := by
          rw [hL]
          have h1 : ∀ q, (Ed.spk (m : Int) es q).length ≤ es.length + q := fun q => by
            induction q with
            | zero => exact Nat.le_refl _
            | succ q ih =>
              have := (Si.put_length (Ed.spk (m : Int) es q) ((q : Int), (m : Int))).2
              unfold Ed.spk
              omega
          have := h1 j
          have := HEL.out
          omega
        have hpt := rput_any w1.heap.size u4 L (j : Int) (m : Int) wr hrow hw1 (by omega) (by rw [hL]; exact Ed.spk_sorted (Ed.sorted_of_val HVAL.out) j) (by
          rw [hnj, hL, Ed.mem_spk, Ed.mem_sp]
          rintro (h | ⟨v, hv, h⟩)
          · exact Ed.val_no_n HVAL.out _ h
          · have := congrArg Prod.fst h
            dsimp only at this
            omega)
        rw [hnj] at hpt
        have hm20 : m ≤ 1048576 := HEL.out.2.1
        have HSN : Hid (Ed.spk (m : Int) es (j + 1) = Si.put L ((j : Int), (m : Int))) := by rw [HL.out]; exact rfl
        have HPT := Nu.hid hpt
        clear hrow hbx hL hpt hnj hLl
        go_wp2_with (go_at_call 42; refine HPT.out.mono ?_; rintro e w4 ⟨v, rfl, hown4, hb4⟩; refine Hid.out ?_)
        refine Nu.hid ?_
        have HROW4 := Nu.hid hown4
        have HBX4 := Nu.hid (HBX.out.below hb4 hs1)
        have hw4 : w1.heap.size ≤ w4.heap.size := Nat.le_trans hw1 hb4.size
        clear hown4 hb4
        go_wp2
        go_roundw
        case rel => exact ⟨j + 1, _, by omega, by go_num, HSN.out.symm, HROW4.out, HBX4.out, hw4⟩
        case measure => simp [intOf]; omega
      · have hd : ¬ ((j : Int) < (m : Int)) := by omega
        obtain rfl : j = m := by omega
        obtain ⟨va, vc, rfl, -, -, -, -⟩ := hrow.form
        have HFAR := Nu.hid (hrow.far (b := w.heap.size + 1) (by omega))
        have HOWN : Hid (OwnE wr w.heap.size (.slice va L.length vc) L) := hrow.lower (by omega)
        obtain ⟨r0, r1⟩ := hbx.rcells
        have f0 := hbx.free 0
        have f1 := hbx.free 1
        clear hrow hbx hL
        go_wp2
        obtain ⟨hb, s0, s1⟩ := HBX.out.store (.int .i64 ((j : Int) + 1)) (.slice va L.length vc)
        refine bodyPost_ret (v := .tuple #[.agg #[.int .i64 ((j : Int) + 1), .slice va L.length vc], .int .i64 0]) (by simp [results, Try.results18, go_sem, s0, s1]) rfl ?_
        rw [← HL.out]
        exact ⟨_, rfl, own_put2 HOWN.out HFAR.out _ _, hb⟩

end Go.Proofs.Ytdkckdbpbdhoaaa
