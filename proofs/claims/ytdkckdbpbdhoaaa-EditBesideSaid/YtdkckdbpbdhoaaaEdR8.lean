/-
  The document's own Beside.
-/
import Derived.Test.YtdkckdbpbdhoaaaEdR4
import Derived.Test.YtdkckdbpbdhoaaaEdR5
import Derived.Test.YtdkckdbpbdhoaaaEdW2
namespace Go.Proofs.Ytdkckdbpbdhoaaa
open Go.RowKit Go.Sort

theorem cell_alloc15 {W : World} {b i : Nat} (h : b < W.heap.size) (o : Obj) : (W.alloc o).cell? ⟨b, i, none⟩ = W.cell? ⟨b, i, none⟩ := by
  simp [World.cell?, Below.heap_alloc W o b h]

set_option maxRecDepth 100000 in
set_option maxHeartbeats 8000000 in
theorem rbeside_any (n n' : Int) (ao ao' : Option Addr) (cap cap' : Nat) (es es' : List (Int × Int)) (w : World) (he : EdgesAt w ao es) (he' : EdgesAt w ao' es') (hnil : NilOk ao es cap) (hl : es.length ≤ 4611686018427387904) (hl' : es'.length ≤ 4611686018427387904) :
    Calls Try.prog 30 #[graphVal n ao es.length cap, graphVal n' ao' es'.length cap'] w (AnsP (Ed.beside n es n' es') w) := by
  have HE := Nu.hid he
  have HE' := Nu.hid he'
  have hva := fun W (hb : Below w.heap.size w W) => rvalid_any n ao cap es W (he.later hb) hl
  have hvb := fun W (hb : Below w.heap.size w W) => rvalid_any n' ao' cap' es' W (he'.later hb) hl'
  have hB0 := Bx2.start (w := w) (n := n) (ao := ao) (cap := cap) (es := es) (x := .int .i64 n') (y := .slice ao' es'.length cap') (t := 24)
  unfold graphVal at hva hvb ⊢
  have HVA := Nu.hid hva
  have HVB := Nu.hid hvb
  have HB0 := Nu.hid hB0
  clear he he' hva hvb hB0
  cases hv : Si.valid n es with
  | false =>
    have hr : Ed.beside n es n' es' = (0, [], 1) := by unfold Ed.beside; rw [if_pos (.inl hv)]
    rw [hr]
    rw [hv] at HVA
    clear hv hr
    go_enter Try.func30, Try.ntmps30
    go_wp2_with (go_at_call 33; refine (HVA.out _ HB0.out.low).mono ?_; rintro e w1 ⟨rfl, hb⟩; refine Hid.out ?_)
    refine Nu.hid ?_
    have HB1 := Nu.hid (HB0.out.later hb)
    clear hb
    obtain ⟨g0, g1⟩ := HB1.out.cells
    obtain ⟨t0, t1⟩ := HB1.out.cells2
    have hs1 := HB1.out.size
    have hs0 : w.heap.size < w1.heap.size := by omega
    have hs01 : w.heap.size + 1 < w1.heap.size := by omega
    obtain ⟨r0, r1⟩ := HB1.out.rcells
    have f0 := HB1.out.free 0
    have f1 := HB1.out.free 1
    go_wp2
    obtain ⟨hb, s0, s1⟩ := HB1.out.store (.int .i64 0) (.slice none 0 0)
    refine bodyPost_ret (v := .tuple #[.agg #[.int .i64 0, .slice none 0 0], .int .i64 1]) (by simp [results, Try.results30, go_sem, s0, s1]) rfl ?_
    exact ⟨_, rfl, OwnE.nil _ _, hb⟩
  | true =>
  cases hv' : Si.valid n' es' with
  | false =>
    have hr : Ed.beside n es n' es' = (0, [], 1) := by unfold Ed.beside; rw [if_pos (.inr hv')]
    rw [hr]
    rw [hv] at HVA
    rw [hv'] at HVB
    clear hv hv' hr
    go_enter Try.func30, Try.ntmps30
    go_wp2_with (go_at_call 33; refine (HVA.out _ HB0.out.low).mono ?_; rintro e w1 ⟨rfl, hb⟩; refine Hid.out ?_)
    refine Nu.hid ?_
    have HB1 := Nu.hid (HB0.out.later hb)
    clear hb
    obtain ⟨g0, g1⟩ := HB1.out.cells
    obtain ⟨t0, t1⟩ := HB1.out.cells2
    have hs1 := HB1.out.size
    have hs0 : w.heap.size < w1.heap.size := by omega
    have hs01 : w.heap.size + 1 < w1.heap.size := by omega
    obtain ⟨r0, r1⟩ := HB1.out.rcells
    have f0 := HB1.out.free 0
    have f1 := HB1.out.free 1
    go_wp2_with (go_at_call 33; refine (HVB.out _ HB1.out.low).mono ?_; rintro e w2 ⟨rfl, hb⟩; refine Hid.out ?_)
    refine Nu.hid ?_
    have HB1 := Nu.hid (HB1.out.later hb)
    clear hb g0 g1 t0 t1 hs1 hs0 hs01 r0 r1 f0 f1
    obtain ⟨g0, g1⟩ := HB1.out.cells
    obtain ⟨t0, t1⟩ := HB1.out.cells2
    have hs1 := HB1.out.size
    have hs0 : w.heap.size < w2.heap.size := by omega
    have hs01 : w.heap.size + 1 < w2.heap.size := by omega
    obtain ⟨r0, r1⟩ := HB1.out.rcells
    have f0 := HB1.out.free 0
    have f1 := HB1.out.free 1
    go_wp2
    obtain ⟨hb, s0, s1⟩ := HB1.out.store (.int .i64 0) (.slice none 0 0)
    refine bodyPost_ret (v := .tuple #[.agg #[.int .i64 0, .slice none 0 0], .int .i64 1]) (by simp [results, Try.results30, go_sem, s0, s1]) rfl ?_
    exact ⟨_, rfl, OwnE.nil _ _, hb⟩
  | true =>
    have hval := Si.valid_iff.1 hv
    have hval' := Si.valid_iff.1 hv'
    have hfew := hval.few
    have hfew' := hval'.few
    have hlo := hval.lo
    have hhi := hval.hi
    have hlo' := hval'.lo
    have hhi' := hval'.hi
    have HVAL := Nu.hid hval
    have HVAL' := Nu.hid hval'
    have hno : ¬ (Si.valid n es = false ∨ Si.valid n' es' = false) := by rw [hv, hv']; simp
    have HNO := Nu.hid hno
    rw [hv] at HVA
    rw [hv'] at HVB
    have hsn : IntKind.i64.wrap (n + n') = n + n' := wrap_small _ (by omega) (by omega)
    have hse : IntKind.i64.wrap ((es.length : Int) + (es'.length : Int)) = (es.length : Int) + (es'.length : Int) := wrap_small _ (by omega) (by omega)
    have HBD : Hid ((0 ≤ n ∧ n ≤ 1048576) ∧ es.length ≤ 4194304 ∧ es'.length ≤ 4194304) := ⟨⟨hlo, hhi⟩, hfew, hfew'⟩
    clear hv hv' hval hval' hno hl hl'
    by_cases hbn : 1048576 < n + n'
    · have hr : Ed.beside n es n' es' = (0, [], 141) := by
        unfold Ed.beside
        rw [if_neg HNO.out, if_pos (.inl hbn)]
      rw [hr]
      have hbd : decide (1048576 < n + n') = true := by simp [hbn]
      clear hr hbn hlo hhi hlo' hhi' hfew hfew'
      go_enter Try.func30, Try.ntmps30
      go_wp2_with (go_at_call 33; refine (HVA.out _ HB0.out.low).mono ?_; rintro e w1 ⟨rfl, hb⟩; refine Hid.out ?_)
      refine Nu.hid ?_
      have HB1 := Nu.hid (HB0.out.later hb)
      clear hb
      obtain ⟨g0, g1⟩ := HB1.out.cells
      obtain ⟨t0, t1⟩ := HB1.out.cells2
      have hs1 := HB1.out.size
      have hs0 : w.heap.size < w1.heap.size := by omega
      have hs01 : w.heap.size + 1 < w1.heap.size := by omega
      obtain ⟨r0, r1⟩ := HB1.out.rcells
      have f0 := HB1.out.free 0
      have f1 := HB1.out.free 1
      go_wp2_with (go_at_call 33; refine (HVB.out _ HB1.out.low).mono ?_; rintro e w2 ⟨rfl, hb⟩; refine Hid.out ?_)
      refine Nu.hid ?_
      have HB1 := Nu.hid (HB1.out.later hb)
      clear hb g0 g1 t0 t1 hs1 hs0 hs01 r0 r1 f0 f1
      obtain ⟨g0, g1⟩ := HB1.out.cells
      obtain ⟨t0, t1⟩ := HB1.out.cells2
      have hs1 := HB1.out.size
      have hs0 : w.heap.size < w2.heap.size := by omega
      have hs01 : w.heap.size + 1 < w2.heap.size := by omega
      obtain ⟨r0, r1⟩ := HB1.out.rcells
      have f0 := HB1.out.free 0
      have f1 := HB1.out.free 1
      go_wp2
      obtain ⟨hb, s0, s1⟩ := HB1.out.store (.int .i64 0) (.slice none 0 0)
      refine bodyPost_ret (v := .tuple #[.agg #[.int .i64 0, .slice none 0 0], .int .i64 141]) (by simp [results, Try.results30, go_sem, s0, s1]) rfl ?_
      exact ⟨_, rfl, OwnE.nil _ _, hb⟩
    have hbd : decide (1048576 < n + n') = false := by simp; omega
    by_cases hbe : (4194304 : Int) < (es.length : Int) + (es'.length : Int)
    · have hr : Ed.beside n es n' es' = (0, [], 141) := by
        unfold Ed.beside
        rw [if_neg HNO.out, if_pos (.inr (by omega))]
      rw [hr]
      have hbf : decide ((4194304 : Int) < (es.length : Int) + (es'.length : Int)) = true := by simp; omega
      clear hr hbn hbe hlo hhi hlo' hhi' hfew hfew'
      go_enter Try.func30, Try.ntmps30
      go_wp2_with (go_at_call 33; refine (HVA.out _ HB0.out.low).mono ?_; rintro e w1 ⟨rfl, hb⟩; refine Hid.out ?_)
      refine Nu.hid ?_
      have HB1 := Nu.hid (HB0.out.later hb)
      clear hb
      obtain ⟨g0, g1⟩ := HB1.out.cells
      obtain ⟨t0, t1⟩ := HB1.out.cells2
      have hs1 := HB1.out.size
      have hs0 : w.heap.size < w1.heap.size := by omega
      have hs01 : w.heap.size + 1 < w1.heap.size := by omega
      obtain ⟨r0, r1⟩ := HB1.out.rcells
      have f0 := HB1.out.free 0
      have f1 := HB1.out.free 1
      go_wp2_with (go_at_call 33; refine (HVB.out _ HB1.out.low).mono ?_; rintro e w2 ⟨rfl, hb⟩; refine Hid.out ?_)
      refine Nu.hid ?_
      have HB1 := Nu.hid (HB1.out.later hb)
      clear hb g0 g1 t0 t1 hs1 hs0 hs01 r0 r1 f0 f1
      obtain ⟨g0, g1⟩ := HB1.out.cells
      obtain ⟨t0, t1⟩ := HB1.out.cells2
      have hs1 := HB1.out.size
      have hs0 : w.heap.size < w2.heap.size := by omega
      have hs01 : w.heap.size + 1 < w2.heap.size := by omega
      obtain ⟨r0, r1⟩ := HB1.out.rcells
      have f0 := HB1.out.free 0
      have f1 := HB1.out.free 1
      go_wp2
      obtain ⟨hb, s0, s1⟩ := HB1.out.store (.int .i64 0) (.slice none 0 0)
      refine bodyPost_ret (v := .tuple #[.agg #[.int .i64 0, .slice none 0 0], .int .i64 141]) (by simp [results, Try.results30, go_sem, s0, s1]) rfl ?_
      exact ⟨_, rfl, OwnE.nil _ _, hb⟩
    have hbf : decide ((4194304 : Int) < (es.length : Int) + (es'.length : Int)) = false := by simp; omega
    have hr : Ed.beside n es n' es' = (n + n', es ++ Ed.sh n es', 0) := by
      unfold Ed.beside
      rw [if_neg HNO.out, if_neg (by omega)]
    rw [hr]
    have HKP : Hid (∀ W, Below w.heap.size w W → Calls Try.prog 39 #[.slice ao es.length cap] W fun e w' => ∃ a c, e = .returned (.slice a es.length c) ∧ OwnE w' W.heap.size (.slice a es.length c) es ∧ Below W.heap.size W w') := fun W hb => kept_any ao es.length cap es W rfl (HE.out.later hb) hnil (by omega)
    clear hr hnil hbn hbe hlo hhi hlo' hhi' hfew hfew'
    go_enter Try.func30, Try.ntmps30
    go_wp2_with (go_at_call 33; refine (HVA.out _ HB0.out.low).mono ?_; rintro e w1 ⟨rfl, hb⟩; refine Hid.out ?_)
    refine Nu.hid ?_
    have HB1 := Nu.hid (HB0.out.later hb)
    clear hb
    obtain ⟨g0, g1⟩ := HB1.out.cells
    obtain ⟨t0, t1⟩ := HB1.out.cells2
    have hs1 := HB1.out.size
    have hs0 : w.heap.size < w1.heap.size := by omega
    have hs01 : w.heap.size + 1 < w1.heap.size := by omega
    obtain ⟨r0, r1⟩ := HB1.out.rcells
    have f0 := HB1.out.free 0
    have f1 := HB1.out.free 1
    go_wp2_with (go_at_call 33; refine (HVB.out _ HB1.out.low).mono ?_; rintro e w2 ⟨rfl, hb⟩; refine Hid.out ?_)
    refine Nu.hid ?_
    have HB1 := Nu.hid (HB1.out.later hb)
    clear hb g0 g1 t0 t1 hs1 hs0 hs01 r0 r1 f0 f1
    obtain ⟨g0, g1⟩ := HB1.out.cells
    obtain ⟨t0, t1⟩ := HB1.out.cells2
    have hs1 := HB1.out.size
    have hs0 : w.heap.size < w2.heap.size := by omega
    have hs01 : w.heap.size + 1 < w2.heap.size := by omega
    obtain ⟨r0, r1⟩ := HB1.out.rcells
    have f0 := HB1.out.free 0
    have f1 := HB1.out.free 1
    go_wp2_with (go_at_call 39; refine (HKP.out _ HB1.out.low).mono ?_; rintro e w3 ⟨ka, kc, rfl, hown, hb3⟩; refine Hid.out ?_)
    refine Nu.hid ?_
    have HB3 := Nu.hid (HB1.out.later hb3)
    have HKO := Nu.hid hown
    have hs23 : w2.heap.size ≤ w3.heap.size := hb3.size
    clear hown hb3 g0 g1 t0 t1 r0 r1 f0 f1
    go_wp2
    go_loopw [6, 7] (fun v c wr => ∃ (k : Nat) (L : List (Int × Int)), k ≤ es'.length ∧ c = .int .i64 k ∧ L = es ++ Ed.sh n (es'.take k) ∧ OwnE wr w2.heap.size v L ∧ Bx2 w n ao cap es (.int .i64 n') (.slice ao' es'.length cap') 24 wr ∧ w2.heap.size ≤ wr.heap.size) (fun _ c _ => es'.length - (intOf c).toNat)
    case atStart => exact ⟨0, es, Nat.zero_le _, rfl, by simp [Ed.sh], HKO.out, HB3.out, hs23⟩
    case round =>
      obtain ⟨k, L, hk, rfl, hL, hrow, hbx, hwr⟩ := hrel
      have HROW := Nu.hid hrow
      have HBX := Nu.hid hbx
      have HL := Nu.hid hL
      obtain ⟨g0, g1⟩ := hbx.cells
      obtain ⟨t0, t1⟩ := hbx.cells2
      have hsx := hbx.size
      have hsx0 : w.heap.size < wr.heap.size := by omega
      have hsx1 : w.heap.size + 1 < wr.heap.size := by omega
      by_cases hlt : k < es'.length
      · have hlti : (k : Int) < (es'.length : Int) := by omega
        have hk0 : (0 : Int) ≤ (k : Int) := by omega
        obtain ⟨p, hp⟩ : ∃ p, es'[k]? = some p := ⟨_, List.getElem?_eq_getElem hlt⟩
        obtain ⟨b, o, rfl, c0, c1⟩ := (HE'.out.later hbx.low) k p hp
        have hbw : b < w.heap.size := by
          obtain ⟨b', o', eb, hc, _⟩ := HE'.out k p hp
          cases eb
          exact block_lt_of_cell hc
        have hbw2 : b < w2.heap.size := by omega
        have hbl : b < wr.heap.size := block_lt_of_cell c0
        have hok := HVAL'.out.each k p hp
        unfold Si.ok at hok
        obtain ⟨p1, p2⟩ := p
        dsimp only at c0 c1 hok
        obtain ⟨d1, hd1⟩ : ∃ s, n + p1 = s := ⟨_, rfl⟩
        obtain ⟨d2, hd2⟩ : ∃ s, n + p2 = s := ⟨_, rfl⟩
        have hbdd := HBD.out
        have hn'1 := HVAL'.out.hi
        have ws1 : IntKind.i64.wrap (n + p1) = d1 := by rw [hd1]; exact wrap_small _ (by omega) (by omega)
        have ws2 : IntKind.i64.wrap (n + p2) = d2 := by rw [hd2]; exact wrap_small _ (by omega) (by omega)
        have HSN : Hid (es ++ Ed.sh n (es'.take (k + 1)) = L ++ [(d1, d2)]) := by
          show _ = _
          rw [HL.out, Si.take_snoc hp, ← hd1, ← hd2]
          simp [Ed.sh]
        have hLl : L.length ≤ 8388608 := by
          rw [hL, List.length_append]
          have : (Ed.sh n (es'.take k)).length ≤ es'.length := by simp [Ed.sh]; omega
          omega
        have hm20 : es'.length ≤ 4194304 := hbdd.2.2
        clear hrow hbx hL hp hok hd1 hd2 hbdd hn'1
        go_wp2
        go_region_held3 (fun w' => w'.cell? ⟨w.heap.size, 0, none⟩ = some (.int .i64 n) ∧ w'.cell? ⟨w.heap.size + 1, 1, none⟩ = some (.slice (some ⟨b, o, none⟩) es'.length cap') ∧ w'.cell? ⟨b, o + k * 2, none⟩ = some (.int .i64 p1) ∧ w'.cell? ⟨b, o + k * 2 + 1, none⟩ = some (.int .i64 p2))
          (first
            | (go_keep; done)
            | (go_split_ands
               (try dsimp only); (repeat' apply And.intro) <;> (refine (cell_alloc15 ?_ _).trans ?_ <;> first | assumption | omega))
            | (go_split_ands
               (try dsimp only); (repeat' apply And.intro) <;> (refine (hb3z.cell (p := ⟨_, _, none⟩) ?_).trans ?_ <;> first | assumption | omega | (simp; omega))))
          (((try rw [if_pos (by rfl)]); refine wp_extendE _ _ (by rfl) w2.heap.size _ L [(d1, d2)] (HROW.out.alloc _) ⟨wr.heap.size, 0, none⟩ 1 1 rfl (edges_one wr _ _) (by simp; omega) (by simp; omega) (by rfl) (by rfl) ?_; intro v' w4 hrow4 hb4; have hb3z : Below w2.heap.size wr w4 := ((Below.refl w2.heap.size wr).alloc hwr _).drew.trans hb4))
        have HROW4 := Nu.hid hrow4
        have HBX4 := Nu.hid (HBX.out.below hb3z hs1)
        have hw4 : w2.heap.size ≤ w4.heap.size := Nat.le_trans hwr hb3z.size
        clear hrow4 hb4 hb3z
        go_wp2
        go_roundw
        case rel => exact ⟨k + 1, _, by omega, by go_num, HSN.out.symm, HROW4.out, HBX4.out, hw4⟩
        case measure => simp [intOf]; omega
      · have hd : ¬ ((k : Int) < (es'.length : Int)) := by omega
        have HLE : Hid (L = es ++ Ed.sh n es') := by rw [hL, List.take_of_length_le (by omega)]; exact rfl
        obtain ⟨va, vc, rfl, -, -, -, -⟩ := hrow.form
        have HFAR := Nu.hid (hrow.far (b := w.heap.size + 2) (by omega))
        have HOWN : Hid (OwnE wr w.heap.size (.slice va L.length vc) L) := hrow.lower (by omega)
        obtain ⟨r0, r1⟩ := hbx.rcells
        have f0 := hbx.free 0
        have f1 := hbx.free 1
        clear hrow hbx hL
        go_wp2
        obtain ⟨hb, s0, s1⟩ := HBX.out.store (.int .i64 (n + n')) (.slice va L.length vc)
        refine bodyPost_ret (v := .tuple #[.agg #[.int .i64 (n + n'), .slice va L.length vc], .int .i64 0]) (by simp [results, Try.results30, go_sem, s0, s1]) rfl ?_
        rw [← HLE.out]
        exact ⟨_, rfl, own_put2 HOWN.out HFAR.out _ _, hb⟩

end Go.Proofs.Ytdkckdbpbdhoaaa
