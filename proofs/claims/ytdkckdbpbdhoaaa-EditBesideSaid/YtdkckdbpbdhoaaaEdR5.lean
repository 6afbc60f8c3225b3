/-
  The document's own With.
-/
import Derived.Test.YtdkckdbpbdhoaaaEdR2
import Derived.Test.YtdkckdbpbdhoaaaSiRValid
import Derived.Test.YtdkckdbpbdhoaaaEdBx
import Derived.Test.YtdkckdbpbdhoaaaSiEq
namespace Go.Proofs.Ytdkckdbpbdhoaaa
open Go.RowKit Go.Sort

theorem Bx2.below {w W W' : World} {n : Int} {ao : Option Addr} {cap B : Nat} {es : List (Int × Int)} {x y : Value} {t : TypeId} (h : Bx2 w n ao cap es x y t W) (hb : Below B W W') (hB : w.heap.size + 2 < B) : Bx2 w n ao cap es x y t W' :=
  ⟨h.low.trans (hb.mono (by omega)), (hb.block _ (by omega)).trans h.box, (hb.block _ (by omega)).trans h.two, (hb.block _ hB).trans h.res⟩

set_option maxRecDepth 100000 in
set_option maxHeartbeats 8000000 in
theorem rwith_any (n : Int) (x : Int × Int) (ao : Option Addr) (cap : Nat) (es : List (Int × Int)) (w : World) (he : EdgesAt w ao es) (hnil : NilOk ao es cap) (hl : es.length ≤ 4611686018427387904) :
    Calls Try.prog 14 #[graphVal n ao es.length cap, edgeVal x] w (AnsP (Ed.withE n es x) w) := by
  have HE := Nu.hid he
  have HNIL := Nu.hid hnil
  have hva := fun W (hb : Below w.heap.size w W) => rvalid_any n ao cap es W (he.later hb) hl
  have hB0 := Bx2.start (w := w) (n := n) (ao := ao) (cap := cap) (es := es) (x := .int .i64 x.1) (y := .int .i64 x.2) (t := 26)
  unfold graphVal at hva ⊢
  unfold edgeVal
  have HVA := Nu.hid hva
  have HB0 := Nu.hid hB0
  clear he hva hB0 hnil
  obtain ⟨x1, x2⟩ := x
  dsimp only at HB0 ⊢
  cases hv : Si.valid n es with
  | false =>
    have hr : Ed.withE n es (x1, x2) = (0, [], 1) := by unfold Ed.withE; rw [if_pos hv]
    rw [hr]
    rw [hv] at HVA
    clear hv hr
    go_enter Try.func14, Try.ntmps14
    go_wp2_with (go_at_call 33; refine (HVA.out _ HB0.out.low).mono ?_; rintro e w1 ⟨rfl, hb⟩; refine Hid.out ?_)
    refine Nu.hid ?_
    have HB1 := Nu.hid (HB0.out.later hb)
    clear hb
    obtain ⟨g0, g1⟩ := HB1.out.cells
    obtain ⟨t0, t1⟩ := HB1.out.cells2
    have hs1 := HB1.out.size
    have hs0 : w.heap.size < w1.heap.size := by omega
    have hs01 : w.heap.size + 1 < w1.heap.size := by omega
    obtain ⟨r0, r1⟩ := HB1.out.rcells
    have f0 := HB1.out.free 0
    have f1 := HB1.out.free 1
    go_wp2
    obtain ⟨hb, s0, s1⟩ := HB1.out.store (.int .i64 0) (.slice none 0 0)
    refine bodyPost_ret (v := .tuple #[.agg #[.int .i64 0, .slice none 0 0], .int .i64 1]) (by simp [results, Try.results14, go_sem, s0, s1]) rfl ?_
    exact ⟨_, rfl, OwnE.nil _ _, hb⟩
  | true =>
    have hval := Si.valid_iff.1 hv
    have hfew := hval.few
    have HVAL := Nu.hid hval
    have HV := Nu.hid hv
    rw [hv] at HVA
    clear hv hval
    by_cases hok : Si.ok n (x1, x2)
    · have HOK := Nu.hid hok
      unfold Si.ok at hok
      dsimp only at hok
      obtain ⟨k1, k2, k3⟩ := hok
      have k1' : ¬ x1 < 0 := by omega
      have k2' : ¬ x2 ≤ x1 := by omega
      have k3' : ¬ n ≤ x2 := by omega
      go_enter Try.func14, Try.ntmps14
      go_wp2_with (go_at_call 33; refine (HVA.out _ HB0.out.low).mono ?_; rintro e w1 ⟨rfl, hb⟩; refine Hid.out ?_)
      refine Nu.hid ?_
      have HB1 := Nu.hid (HB0.out.later hb)
      clear hb
      obtain ⟨g0, g1⟩ := HB1.out.cells
      obtain ⟨t0, t1⟩ := HB1.out.cells2
      have hs1 := HB1.out.size
      have hs0 : w.heap.size < w1.heap.size := by omega
      have hs01 : w.heap.size + 1 < w1.heap.size := by omega
      obtain ⟨r0, r1⟩ := HB1.out.rcells
      have f0 := HB1.out.free 0
      have f1 := HB1.out.free 1
      go_wp2
      go_loopw [6] (fun c wr => ∃ k : Nat, k ≤ es.length ∧ c = .int .i64 k ∧ (∀ j, j < k → es[j]? ≠ some (x1, x2)) ∧ Bx2 w n ao cap es (.int .i64 x1) (.int .i64 x2) 26 wr) (fun c _ => es.length - (intOf c).toNat)
      case atStart => exact ⟨0, Nat.zero_le _, rfl, fun j h => by omega, HB1.out⟩
      case round =>
        obtain ⟨k, hk, rfl, hno, hbx⟩ := hrel
        have HBX := Nu.hid hbx
        have HNO := Nu.hid hno
        clear g0 g1 t0 t1 hs1 hs0 hs01 r0 r1 f0 f1
        obtain ⟨g0, g1⟩ := hbx.cells
        obtain ⟨t0, t1⟩ := hbx.cells2
        have hs1 := hbx.size
        have hs0 : w.heap.size < wr.heap.size := by omega
        have hs01 : w.heap.size + 1 < wr.heap.size := by omega
        obtain ⟨r0, r1⟩ := hbx.rcells
        have f0 := hbx.free 0
        have f1 := hbx.free 1
        by_cases hlt : k < es.length
        · have hlti : (k : Int) < (es.length : Int) := by omega
          have hk0 : (0 : Int) ≤ (k : Int) := by omega
          obtain ⟨p, hp⟩ : ∃ p, es[k]? = some p := ⟨_, List.getElem?_eq_getElem hlt⟩
          obtain ⟨b, o, rfl, c0, c1⟩ := (HE.out.later hbx.low) k p hp
          have hbl : b < wr.heap.size := block_lt_of_cell c0
          obtain ⟨p1, p2⟩ := p
          dsimp only at c0 c1
          have HP := Nu.hid hp
          clear hp hno hbx
          by_cases hpx : (p1, p2) = (x1, x2)
          · have hbe : (p1 == x1 && p2 == x2) = true := by cases hpx; simp
            have HR : Hid (Ed.withE n es (x1, x2) = (0, [], 140)) := by
              show _ = _
              unfold Ed.withE
              rw [if_neg (by rw [HV.out]; simp), if_neg (by simpa using HOK.out), if_pos (List.mem_of_getElem? (hpx ▸ HP.out))]
            clear hpx
            go_wp2_with fail
            have eqP := eqEdge
            go_quiet (fail)
            clear eqP
            have HBD : Hid (Bx2 w n (some ⟨b, o, none⟩) cap es (.int .i64 x1) (.int .i64 x2) 26 (wr.drewN nq)) := ⟨below_drewN HBX.out.low _, HBX.out.box, HBX.out.two, HBX.out.res⟩
            clear c0 c1 g0 g1 t0 t1 r0 r1 f0 f1
            generalize wr.drewN nq = w2 at HBD ⊢
            obtain ⟨r0, r1⟩ := HBD.out.rcells
            have f0 := HBD.out.free 0
            have f1 := HBD.out.free 1
            go_wp2
            obtain ⟨hb, s0, s1⟩ := HBD.out.store (.int .i64 0) (.slice none 0 0)
            refine bodyPost_ret (v := .tuple #[.agg #[.int .i64 0, .slice none 0 0], .int .i64 140]) (by simp [results, Try.results14, go_sem, s0, s1]) rfl ?_
            rw [HR.out]
            exact ⟨_, rfl, OwnE.nil _ _, hb⟩
          · have hbe : (p1 == x1 && p2 == x2) = false := by
              by_cases e1 : p1 = x1
              · have : p2 ≠ x2 := fun e2 => hpx (by rw [e1, e2])
                simp [this]
              · simp [e1]
            have HPX := Nu.hid hpx
            clear hpx
            go_wp2_with fail
            have eqP := eqEdge
            go_quiet (fail)
            clear eqP
            go_wp2
            go_roundw
            case rel =>
              refine ⟨k + 1, by omega, by go_num, fun j hj => ?_, ?_⟩
              · by_cases hjk : j = k
                · subst hjk
                  rw [HP.out]
                  intro h
                  exact HPX.out (Option.some.inj h)
                · exact HNO.out j (by omega)
              · exact ⟨below_drewN HBX.out.low _, HBX.out.box, HBX.out.two, HBX.out.res⟩
            case measure => simp [intOf]; omega
        · have hd : ¬ ((k : Int) < (es.length : Int)) := by omega
          have hm : (x1, x2) ∉ es := fun h => by
            obtain ⟨j, hj, ej⟩ := List.mem_iff_getElem.1 h
            exact hno j (by omega) (by rw [← ej]; exact List.getElem?_eq_getElem hj)
          have HMM := Nu.hid hm
          clear hno hbx hm
          by_cases hbig : 4194304 ≤ es.length
          · have HR : Hid (Ed.withE n es (x1, x2) = (0, [], 141)) := by
              show _ = _
              unfold Ed.withE
              rw [if_neg (by rw [HV.out]; simp), if_neg (by simpa using HOK.out), if_neg HMM.out, if_pos hbig]
            have hbi : (4194304 : Int) ≤ (es.length : Int) := by omega
            go_wp2
            obtain ⟨hb, s0, s1⟩ := HBX.out.store (.int .i64 0) (.slice none 0 0)
            refine bodyPost_ret (v := .tuple #[.agg #[.int .i64 0, .slice none 0 0], .int .i64 141]) (by simp [results, Try.results14, go_sem, s0, s1]) rfl ?_
            rw [HR.out]
            exact ⟨_, rfl, OwnE.nil _ _, hb⟩
          · obtain ⟨R, hR⟩ : ∃ R, Si.put es (x1, x2) = R := ⟨_, rfl⟩
            have HR : Hid (Ed.withE n es (x1, x2) = (n, R, 0)) := by
              show _ = _
              unfold Ed.withE
              rw [if_neg (by rw [HV.out]; simp), if_neg (by simpa using HOK.out), if_neg HMM.out, if_neg hbig, hR]
            have hnx : Si.norm (x1, x2) = (x1, x2) := by unfold Si.norm; ext <;> simp <;> omega
            have hbi : ¬ ((4194304 : Int) ≤ (es.length : Int)) := by omega
            have HKP : Hid (∀ W, Below w.heap.size w W → Calls Try.prog 39 #[.slice ao es.length cap] W fun e w' => ∃ a c, e = .returned (.slice a es.length c) ∧ OwnE w' W.heap.size (.slice a es.length c) es ∧ Below W.heap.size W w') := fun W hb => kept_any ao es.length cap es W rfl (HE.out.later hb) HNIL.out (by omega)
            have HPT : Hid (∀ (W : World) (B : Nat) (v : Value), OwnE W B v es → B ≤ W.heap.size → Calls Try.prog 42 #[v, .int .i64 x1, .int .i64 x2] W fun e w' => ∃ v', e = .returned v' ∧ OwnE w' B v' R ∧ Below B W w') := fun W B v ho hB => by
              have := rput_any B v es x1 x2 W ho hB (by omega) (Ed.sorted_of_val HVAL.out) (by rw [hnx]; exact HMM.out)
              rw [hnx, hR] at this
              exact this
            clear hR hnx
            go_wp2
            go_region_held3 (fun w' => w'.cell? ⟨w.heap.size, 0, none⟩ = some (.int .i64 n) ∧ w'.cell? ⟨w.heap.size, 1, none⟩ = some (.slice ao es.length cap) ∧ w'.cell? ⟨w.heap.size + 1, 0, none⟩ = some (.int .i64 x1) ∧ w'.cell? ⟨w.heap.size + 1, 1, none⟩ = some (.int .i64 x2))
              (first
          | (go_keep; done)
          | (go_split_ands
             (try dsimp only); (repeat' apply And.intro) <;> (refine (hb3.cell (p := ⟨_, _, none⟩) ?_).trans ?_ <;> first | assumption | (simp; omega)))
          | (go_split_ands
             (try dsimp only); (repeat' apply And.intro) <;> (refine (hb4.cell (p := ⟨_, _, none⟩) ?_).trans ?_ <;> first | assumption | (simp; omega)))
          | (go_split_ands
             (try dsimp only); (repeat' apply And.intro) <;> (refine (hb4.cell (p := ⟨_, _, none⟩) ?_).trans ?_ <;> first | assumption | omega | (simp; omega)))
          | (go_split_ands; (try dsimp only); (repeat' apply And.intro) <;> (refine (cell_put2 ?_ _ _).trans ?_ <;> first | assumption | omega | (simp; done))))
              (first
                | (go_at_call 42; refine (HPT.out _ wr.heap.size _ hown hsb3).mono ?_; rintro e w4 ⟨v, rfl, hown4, hb4⟩; obtain ⟨va, vc, rfl, -, -, -, -⟩ := hown4.form; have HB4 := Nu.hid (HB3.out.below hb4 hs1); obtain ⟨r0, r1⟩ := HB4.out.rcells; have f0 := HB4.out.free 0; have f1 := HB4.out.free 1)
                | (go_at_call 39; refine (HKP.out _ HBX.out.low.drew).mono ?_; rintro e w3 ⟨ka, kc, rfl, hown, hb3'⟩; have hb3 : Below wr.heap.size wr w3 := (Below.refl wr.heap.size wr).drew.trans hb3'; have HB3 := Nu.hid (HBX.out.later hb3); have hs3 := HB3.out.size; have hsb3 : wr.heap.size ≤ w3.heap.size := hb3.size))
            have HOWN : Hid (OwnE w4 w.heap.size (.slice va R.length vc) R) := hown4.lower (by omega)
            have HFAR := Nu.hid (hown4.far (b := w.heap.size + 2) (by omega))
            clear hown hown4 hb3 hb3' hb4
            go_wp2
            obtain ⟨hb, s0, s1⟩ := HB4.out.store (.int .i64 n) (.slice va R.length vc)
            refine bodyPost_ret (v := .tuple #[.agg #[.int .i64 n, .slice va R.length vc], .int .i64 0]) (by simp [results, Try.results14, go_sem, s0, s1]) rfl ?_
            rw [HR.out]
            exact ⟨_, rfl, own_put2 HOWN.out HFAR.out _ _, hb⟩
    · have hr : Ed.withE n es (x1, x2) = (0, [], 2) := by
        unfold Ed.withE
        rw [if_neg (by rw [HV.out]; simp), if_pos hok]
      rw [hr]
      have hok' : x1 < 0 ∨ x2 ≤ x1 ∨ n ≤ x2 := by
        unfold Si.ok at hok
        dsimp only at hok
        omega
      clear hok hr
      by_cases k1 : x1 < 0
      · clear hok'
        go_enter Try.func14, Try.ntmps14
        go_wp2_with (go_at_call 33; refine (HVA.out _ HB0.out.low).mono ?_; rintro e w1 ⟨rfl, hb⟩; refine Hid.out ?_)
        refine Nu.hid ?_
        have HB1 := Nu.hid (HB0.out.later hb)
        clear hb
        obtain ⟨g0, g1⟩ := HB1.out.cells
        obtain ⟨t0, t1⟩ := HB1.out.cells2
        have hs1 := HB1.out.size
        have hs0 : w.heap.size < w1.heap.size := by omega
        have hs01 : w.heap.size + 1 < w1.heap.size := by omega
        obtain ⟨r0, r1⟩ := HB1.out.rcells
        have f0 := HB1.out.free 0
        have f1 := HB1.out.free 1
        go_wp2
        obtain ⟨hb, s0, s1⟩ := HB1.out.store (.int .i64 0) (.slice none 0 0)
        refine bodyPost_ret (v := .tuple #[.agg #[.int .i64 0, .slice none 0 0], .int .i64 2]) (by simp [results, Try.results14, go_sem, s0, s1]) rfl ?_
        exact ⟨_, rfl, OwnE.nil _ _, hb⟩
      by_cases k2 : x2 ≤ x1
      · clear hok'
        go_enter Try.func14, Try.ntmps14
        go_wp2_with (go_at_call 33; refine (HVA.out _ HB0.out.low).mono ?_; rintro e w1 ⟨rfl, hb⟩; refine Hid.out ?_)
        refine Nu.hid ?_
        have HB1 := Nu.hid (HB0.out.later hb)
        clear hb
        obtain ⟨g0, g1⟩ := HB1.out.cells
        obtain ⟨t0, t1⟩ := HB1.out.cells2
        have hs1 := HB1.out.size
        have hs0 : w.heap.size < w1.heap.size := by omega
        have hs01 : w.heap.size + 1 < w1.heap.size := by omega
        obtain ⟨r0, r1⟩ := HB1.out.rcells
        have f0 := HB1.out.free 0
        have f1 := HB1.out.free 1
        go_wp2
        obtain ⟨hb, s0, s1⟩ := HB1.out.store (.int .i64 0) (.slice none 0 0)
        refine bodyPost_ret (v := .tuple #[.agg #[.int .i64 0, .slice none 0 0], .int .i64 2]) (by simp [results, Try.results14, go_sem, s0, s1]) rfl ?_
        exact ⟨_, rfl, OwnE.nil _ _, hb⟩
      have k3 : n ≤ x2 := by omega
      clear hok'
      go_enter Try.func14, Try.ntmps14
      go_wp2_with (go_at_call 33; refine (HVA.out _ HB0.out.low).mono ?_; rintro e w1 ⟨rfl, hb⟩; refine Hid.out ?_)
      refine Nu.hid ?_
      have HB1 := Nu.hid (HB0.out.later hb)
      clear hb
      obtain ⟨g0, g1⟩ := HB1.out.cells
      obtain ⟨t0, t1⟩ := HB1.out.cells2
      have hs1 := HB1.out.size
      have hs0 : w.heap.size < w1.heap.size := by omega
      have hs01 : w.heap.size + 1 < w1.heap.size := by omega
      obtain ⟨r0, r1⟩ := HB1.out.rcells
      have f0 := HB1.out.free 0
      have f1 := HB1.out.free 1
      go_wp2
      obtain ⟨hb, s0, s1⟩ := HB1.out.store (.int .i64 0) (.slice none 0 0)
      refine bodyPost_ret (v := .tuple #[.agg #[.int .i64 0, .slice none 0 0], .int .i64 2]) (by simp [results, Try.results14, go_sem, s0, s1]) rfl ?_
      exact ⟨_, rfl, OwnE.nil _ _, hb⟩

end Go.Proofs.Ytdkckdbpbdhoaaa
