/-
  Proved: for every graph and every two numbers the law CsrIter answers true, and the graph reads afterwards as before. No condition.
-/
import Derived.Test.YtlnkcebfnamdcaaCsRest2
import Derived.Test.YtlnkcebfnamdcaaCsAwake
import Derived.Test.YtlnkcebfnamdcaaCsRV
import Derived.Test.YtlnkcebfnamdcaaCsQuiet
import Derived.Test.YtlnkcebfnamdcaaSiGin
import Derived.Maps.OwnIn
import Derived.Laws.EntriesVeiled
namespace Go.Proofs.Ytlnkcebfnamdcaa
open Go.ChangeShapes Go.WideShapes Go.ChangeAt Go.RowKit Go.Shelf
namespace lawIter

attribute [local go_sem] Oper.semAt_some

set_option maxRecDepth 100000 in
set_option maxHeartbeats 16000000 in
theorem walk (n : Int) (ao : Option Addr) (ca : Nat) (es : List (Int × Int)) (x c : Int) (w : World) (_ : -9223372036854775808 ≤ n ∧ n ≤ 9223372036854775807) (hq : PairsIn w ao es.length ca es) (hle : es.length * 16 ≤ 140737488351232)
    (hwx : (Lit.int .i64 x).wf = true) (hwc : (Lit.int .i64 c).wf = true) :
    Calls Try.prog 5 #[.agg #[.int .i64 n, .slice ao es.length ca], .int .i64 x, .int .i64 c] w fun e w' => e = .returned (.bool true) ∧ Below w.heap.size w w' := by
  obtain ⟨i0, hi, hz0, hz1, hz2⟩ := info_parts info
  have HQ := Nu.hid hq
  have hadjc := fun W (hb : Below w.heap.size w W) => adj_any n ao ca es W (hq.hat.later hb) (fun h => (hq.hnil h).2) (by omega)
  have hvalid := fun W (hb : Below w.heap.size w W) => r4valid_any n ao ca es W (hq.hat.later hb) (by omega)
  unfold graphVal at hadjc hvalid
  have HADJC := Nu.hid hadjc
  have HVALID := Nu.hid hvalid
  clear hq hadjc hvalid
  obtain ⟨V, hV⟩ : ∃ V, V = (((w.alloc (.cells #[.int .i64 n, .slice ao es.length ca] 24)).alloc (.cells #[.int .i64 x] 3)).alloc (.cells #[.int .i64 c] 3)).alloc (.cells #[.bool false] 4) := ⟨_, rfl⟩
  have hbV : Below w.heap.size w V := by rw [hV]; exact ((((Below.refl _ _).alloc (Nat.le_refl _) _).alloc (by simp) _).alloc (by simp; omega) _).alloc (by simp; omega) _
  have hsV : V.heap.size = w.heap.size + 4 := by rw [hV]; simp
  have gV : V.heap[w.heap.size]? = some (.cells #[.int .i64 n, .slice ao es.length ca] 24 (0, 0)) := by
    rw [hV, Below.heap_alloc _ _ _ (by simp; omega), Below.heap_alloc _ _ _ (by simp; omega), Below.heap_alloc _ _ _ (by simp)]
    exact heap_alloc_new w _
  have vV : Boxed V (w.heap.size + 1) 3 (.int .i64 x) := by
    rw [hV]
    have := ((Boxed.new (w.alloc (.cells #[.int .i64 n, .slice ao es.length ca] 24)) 3 (.int .i64 x)).alloc (.cells #[.int .i64 c] 3)).alloc (.cells #[.bool false] 4)
    simpa using this
  have nV : Boxed V (w.heap.size + 1 + 1) 3 (.int .i64 c) := by
    rw [hV]
    have := (Boxed.new ((w.alloc (.cells #[.int .i64 n, .slice ao es.length ca] 24)).alloc (.cells #[.int .i64 x] 3)) 3 (.int .i64 c)).alloc (.cells #[.bool false] 4)
    simpa using this
  have rV : Boxed V (w.heap.size + 1 + 1 + 1) 4 (.bool false) := by
    rw [hV]
    have := Boxed.new (((w.alloc (.cells #[.int .i64 n, .slice ao es.length ca] 24)).alloc (.cells #[.int .i64 x] 3)).alloc (.cells #[.int .i64 c] 3)) 4 (.bool false)
    simpa using this
  have HV := Nu.hid hV
  have HBV := Nu.hid hbV
  have GV := Nu.hid gV
  have VV := Nu.hid vV
  have NV := Nu.hid nV
  have RV := Nu.hid rV
  have hnil := fun W Bs => run_eql_iter W (.func 36) #[] #[.pointer (some ⟨Bs, 0, none⟩)]
  clear hV hbV gV vV nV rV
  refine (callsIn_wide (n := 9)).1 ?_
  refine callsIn_of_wp_marks Try.func5 rfl trivial ?_ rfl
  simp only [Try.ntmps5, List.size_toArray, List.length_cons, List.length_nil, Nat.reduceAdd, Nat.reduceSub, Array.replicate_succ, Array.replicate_zero, List.push_toArray, List.append_toArray, List.nil_append, List.cons_append]
  refine wpIn_wide.2 ?_
  -- the fixed fact
  go_wp2_with (go_at_call 7; rw [← HV.out]; refine (awake_any _).mono ?_; rintro e w1 ⟨rfl, hb⟩; refine Hid.out ?_)
  refine Nu.hid ?_
  have HB1 := Nu.hid (HBV.out.trans (hb.mono HBV.out.size))
  have hs1 := hb.size
  have G1 := Nu.hid ((hb.block _ (by omega)).trans GV.out)
  have V1 : Hid (Boxed w1 (w.heap.size + 1) 3 (.int .i64 x)) := (hb.block _ (by omega)).trans VV.out
  have N1 : Hid (Boxed w1 (w.heap.size + 1 + 1) 3 (.int .i64 c)) := (hb.block _ (by omega)).trans NV.out
  have R1 : Hid (Boxed w1 (w.heap.size + 1 + 1 + 1) 4 (.bool false)) := (hb.block _ (by omega)).trans RV.out
  obtain ⟨x0, x1, -⟩ := pair_cells G1.out
  clear hb GV VV NV RV HV
  -- the Adj
  go_wp2_with (go_at_call 8; refine (HADJC.out _ HB1.out).mono ?_; rintro e w2 ⟨q, z, rfl, hq, hb⟩; refine Hid.out ?_)
  refine Nu.hid ?_
  have HB2 := Nu.hid (HB1.out.trans (hb.mono HB1.out.size))
  have hs2 := hb.size
  have G2 := Nu.hid ((hb.block _ (by omega)).trans G1.out)
  have V2 : Hid (Boxed w2 (w.heap.size + 1) 3 (.int .i64 x)) := (hb.block _ (by omega)).trans V1.out
  have N2 : Hid (Boxed w2 (w.heap.size + 1 + 1) 3 (.int .i64 c)) := (hb.block _ (by omega)).trans N1.out
  have R2 : Hid (Boxed w2 (w.heap.size + 1 + 1 + 1) 4 (.bool false)) := (hb.block _ (by omega)).trans R1.out
  have HNQ := Nu.hid hq.1
  clear x0 x1 hb hq G1 V1 N1 R1 HADJC
  obtain ⟨x0, x1, -⟩ := pair_cells ((Below.heap_alloc w2 (.cells #[.pointer q] 27) w.heap.size (by omega)).trans G2.out)
  rcases HNQ.out with ⟨m, p, hnm, hval, rfl, hadj⟩ | ⟨hv, rfl⟩
  rotate_left
  · have hbA : Below w.heap.size w (w2.alloc (.cells #[.pointer none] 27)) := HB2.out.alloc HB2.out.size _
    have hva := HVALID.out _ hbA
    rw [hv] at hva
    have HVA := Nu.hid hva
    have R3 : Hid (Boxed (w2.alloc (.cells #[.pointer none] 27)) (w.heap.size + 1 + 1 + 1) 4 (.bool false)) := R2.out.alloc _
    have HBA := Nu.hid hbA
    clear hv hva HVALID hbA
    go_wp2_with (go_at_call 9; refine HVA.out.mono ?_; rintro e w12 ⟨rfl, hb12⟩; refine Hid.out ?_)
    refine Nu.hid ?_
    have r12 : Boxed w12 (w.heap.size + 1 + 1 + 1) 4 (.bool false) := (hb12.block _ (by simp; omega)).trans R3.out
    have c12 := r12.cell
    have f12 := r12.frozen
    have HB12 := Nu.hid (HBA.out.trans (hb12.mono HBA.out.size))
    have HR12 := Nu.hid r12
    clear hb12 r12
    go_wp2
    have r13 := (HR12.out.set (.bool true)).cell
    exact ⟨.bool true, by simp [results, Try.results5, go_sem, r13], rfl, HB12.out.setCell (p := ⟨w.heap.size + 1 + 1 + 1, 0, none⟩) (by show w.heap.size ≤ w.heap.size + 1 + 1 + 1; omega) _⟩
  subst hnm
  have hfew := hval.few
  have hhi := hval.hi
  have hadj2 : IsAdj w2 (.pointer (some ⟨p, 0, none⟩)) m es := .inr ⟨_, p, rfl, hval, hadj⟩
  obtain ⟨w3, hw3⟩ : ∃ w3, w3 = w2.alloc (.cells #[.pointer (some ⟨p, 0, none⟩)] 27) := ⟨_, rfl⟩
  have hb3 : Below w2.heap.size w2 w3 := by rw [hw3]; exact (Below.refl _ _).alloc (Nat.le_refl _) _
  have hs3 : w3.heap.size = w2.heap.size + 1 := by rw [hw3]; simp
  have a3 : Boxed w3 w2.heap.size 27 (.pointer (some ⟨p, 0, none⟩)) := by rw [hw3]; exact Boxed.new w2 _ _
  have v3 : Boxed w3 (w.heap.size + 1) 3 (.int .i64 x) := (hb3.block _ (by omega)).trans V2.out
  have hit := citer_any _ m es x w2 w3 hadj2 hb3
  have cv3 := v3.cell
  have ca3 := a3.cell
  obtain ⟨Z, hZ⟩ : ∃ Z, Z = Cs.outZ m es x := ⟨_, rfl⟩
  obtain ⟨L, hL⟩ : ∃ L, L = Z.length := ⟨_, rfl⟩
  have hLe : L ≤ es.length := by rw [hL, hZ]; exact outz_few hval x
  have hdl : (Cs.outI m es x).length = L := by rw [hL, hZ, Cs.outZ_len]
  unfold ItPost at hit
  rw [← hZ, ← hL] at hit
  have HIT := Nu.hid hit
  have HADJ2 := Nu.hid hadj2
  have HDL := Nu.hid hdl
  have HZL := Nu.hid hL
  have HB3 := Nu.hid hb3
  have A3 := Nu.hid a3
  have HW3 := Nu.hid hw3
  rw [hw3] at cv3 ca3
  clear hval hadj hadj2 hb3 a3 v3 hit hZ hL hdl hw3 HNQ HVALID x0 x1
  go_wp2_with (go_at_call 23; rw [← HW3.out]; refine HIT.out.mono ?_; rintro e w4 ⟨Bs, at4, c4, rfl, hBs, hbox, hints, hb4⟩; refine Hid.out ?_)
  refine Nu.hid ?_
  have hs4 := hb4.size
  have hbl4 := hbox.lt
  have a4 : Boxed w4 w2.heap.size 27 (.pointer (some ⟨p, 0, none⟩)) := (hb4.block _ (by omega)).trans A3.out
  have HB4 := Nu.hid (HB3.out.trans (hb4.mono HB3.out.size))
  have A4 := Nu.hid a4
  have HBOX := Nu.hid hbox
  have HINTS := Nu.hid hints
  clear hb4 hbox hints a4 HIT cv3 ca3 HW3 HB3 A3
  go_wp2
  obtain ⟨W0, hW0⟩ : ∃ W0, W0 = (w4.alloc (.cells #[.func (.func 36) #[] #[.pointer (some ⟨Bs, 0, none⟩)]] 46)).alloc (.cells #[.int .i64 0] 3) := ⟨_, rfl⟩
  have hs0 : W0.heap.size = w4.heap.size + 2 := by rw [hW0]; simp
  have hbW : Below w4.heap.size w4 W0 := by rw [hW0]; exact ((Below.refl _ _).alloc (Nat.le_refl _) _).alloc (by simp) _
  have hb0 : Below w2.heap.size w2 W0 := HB4.out.trans (hbW.mono HB4.out.size)
  have k0 : Boxed W0 (w4.heap.size + 1) 3 (.int .i64 0) := by
    rw [hW0]
    have := Boxed.new (w4.alloc (.cells #[.func (.func 36) #[] #[.pointer (some ⟨Bs, 0, none⟩)]] 46)) 3 (.int .i64 0)
    rwa [World.size_alloc] at this
  have it0 : Boxed W0 w4.heap.size 46 (.func (.func 36) #[] #[.pointer (some ⟨Bs, 0, none⟩)]) := by
    rw [hW0]
    exact (Boxed.new w4 _ _).alloc _
  have bs0 : Boxed W0 Bs 25 (.slice at4 Z.length c4) := by
    rw [← HZL.out]
    exact (hbW.block _ hbl4).trans HBOX.out
  have a0 : Boxed W0 w2.heap.size 27 (.pointer (some ⟨p, 0, none⟩)) := (hbW.block _ (by omega)).trans A4.out
  have g0 := (hb0.block _ (by omega)).trans G2.out
  have v0 : Boxed W0 (w.heap.size + 1) 3 (.int .i64 x) := (hb0.block _ (by omega)).trans V2.out
  have n0 : Boxed W0 (w.heap.size + 1 + 1) 3 (.int .i64 c) := (hb0.block _ (by omega)).trans N2.out
  have r0 : Boxed W0 (w.heap.size + 1 + 1 + 1) 4 (.bool false) := (hb0.block _ (by omega)).trans R2.out
  have hund := HINTS.out.under hb0
  have hzl : Z.length ≤ 8388608 := by have := HZL.out; omega
  have hdeg : ∀ V, Below w2.heap.size w2 V → Calls Try.prog 21 #[.pointer (some ⟨p, 0, none⟩), .int .i64 x] V fun e V' => e = .returned (.int .i64 (L : Int)) ∧ V' = V := fun V hb => by
    have := degree_any _ m es x V (HADJ2.out.later hb)
    rw [HDL.out] at this
    exact this
  have HDEG := Nu.hid hdeg
  rw [← hW0]
  clear hW0 hdeg
  rename_i K hK
  have key : ∀ (D : Nat) (kk : Int) (W : World), W0.heap.size ≤ D → Boxed W (w4.heap.size + 1) 3 (.int .i64 kk) → Wrote (fun b => b = w4.heap.size + 1) W0 W → (kk = if 1 ≤ c ∧ c < (L : Int) then c else (L : Int)) → W.heap[D]? = some (.deferred (some [])) →
      K { tmps := #[Value.agg #[Value.int IntKind.i64 (m : Int), Value.slice ao es.length ca], Value.int IntKind.i64 x, Value.int IntKind.i64 c, Value.pointer (some ⟨w.heap.size, 0, none⟩), Value.pointer (some ⟨w.heap.size + 1, 0, none⟩), Value.pointer (some ⟨w.heap.size + 1 + 1, 0, none⟩), Value.pointer (some ⟨w.heap.size + 1 + 1 + 1, 0, none⟩), Value.pointer (some ⟨w2.heap.size, 0, none⟩), Value.int IntKind.i64 z, Value.pointer (some ⟨w4.heap.size, 0, none⟩), Value.pointer (some ⟨w4.heap.size + 1, 0, none⟩), undef, undef, undef, undef, undef, Value.bool true, Value.bool false, Value.tuple #[Value.pointer (some ⟨p, 0, none⟩), Value.int IntKind.i64 z], Value.agg #[Value.int IntKind.i64 (m : Int), Value.slice ao es.length ca], Value.tuple #[Value.pointer (some ⟨p, 0, none⟩), Value.int IntKind.i64 z], Value.pointer (some ⟨p, 0, none⟩), Value.int IntKind.i64 z, Value.pointer (some ⟨p, 0, none⟩), Value.bool false, undef, undef, undef, Value.pointer (some ⟨p, 0, none⟩), Value.int IntKind.i64 x, Value.func (Fn.func 36) #[] #[Value.pointer (some ⟨Bs, 0, none⟩)], Value.func (Fn.func 36) #[] #[Value.pointer (some ⟨Bs, 0, none⟩)], Value.bool false, Value.func (Fn.func 36) #[] #[Value.pointer (some ⟨Bs, 0, none⟩)], undef, undef, undef, undef, undef, undef, undef, undef, undef, undef, undef, undef, undef, undef, undef, undef, undef, undef, undef, undef, undef, undef, undef, undef, undef, undef, undef, undef, undef, undef, undef, undef, undef, undef, undef, undef, undef, undef, undef, undef, undef, undef, undef, undef, undef, undef, undef, undef, undef, undef, undef, undef, undef, undef, undef, undef, undef, undef, undef, undef, undef, undef, undef, undef, undef, undef, undef, undef, undef, undef, undef, undef, undef, undef, undef], defers := [{ target := .collected D, args := #[] }] } W := fun D kk W hD hk hwr hw hm => by
    refine hK _ _ ?_
    refine rest m ao ca es x c z w w2 w4 p Bs at4 c4 Z L D kk W hwx hwc ⟨HB2.out, ⟨by omega, by omega, by omega, by omega⟩, hb0.trans (hwr.below hb0.size (fun b hb => by omega)), ⟨hfew, hLe, HZL.out⟩, HADJ2.out, HDL.out, HINTS.out, (hwr.block _ (by omega) (by omega)).trans g0, (hwr.block _ (by omega) (by omega)).trans v0, (hwr.block _ (by omega) (by omega)).trans n0, (hwr.block _ (by omega) (by omega)).trans r0, (hwr.block _ (by omega) (by omega)).trans a0, (hwr.block _ (by omega) (by omega)).trans it0, (hwr.block _ (by omega) (by omega)).trans bs0, hk, hw, hm⟩
  refine (wpIn_wide (n := 9)).1 ?_
  refine wpIn_rangeFunc_ownG rfl (by omega) (gf := 36) (lb := #[.pointer (some ⟨Bs, 0, none⟩)]) rfl trivial (enters_of Try.func36 (by kernel_rfl) rfl)
    (citer_stops Fence.wide (9 - 1) trivial rfl (by omega) Bs w2.heap.size c4 at4 Z hzl W0 (by omega) bs0 hund) kpW_t (kpW_b (by omega) (by omega)) (Below.refl _ _) (fun _ => rfl)
    (fun pre W => Boxed W (w4.heap.size + 1) 3 (.int .i64 (pre.length : Int)) ∧ Wrote (fun b => b = w4.heap.size + 1) W0 W ∧ ¬ (1 ≤ c ∧ c ≤ (pre.length : Int)))
    (fun k pre W => k = .exit 0 ∧ Boxed W (w4.heap.size + 1) 3 (.int .i64 (pre.length : Int)) ∧ Wrote (fun b => b = w4.heap.size + 1) W0 W ∧ (pre.length : Int) = c ∧ 1 ≤ pre.length ∧ pre.length ≤ L)
    ?own ?ownx ?start
    (fun zz => { tmps := #[Value.agg #[Value.int IntKind.i64 (m : Int), Value.slice ao es.length ca], Value.int IntKind.i64 x, Value.int IntKind.i64 c, Value.pointer (some ⟨w.heap.size, 0, none⟩), Value.pointer (some ⟨w.heap.size + 1, 0, none⟩), Value.pointer (some ⟨w.heap.size + 1 + 1, 0, none⟩), Value.pointer (some ⟨w.heap.size + 1 + 1 + 1, 0, none⟩), Value.pointer (some ⟨w2.heap.size, 0, none⟩), Value.int IntKind.i64 z, Value.pointer (some ⟨w4.heap.size, 0, none⟩), Value.pointer (some ⟨w4.heap.size + 1, 0, none⟩), undef, undef, undef, undef, undef, Value.bool true, Value.bool false, Value.tuple #[Value.pointer (some ⟨p, 0, none⟩), Value.int IntKind.i64 z], Value.agg #[Value.int IntKind.i64 (m : Int), Value.slice ao es.length ca], Value.tuple #[Value.pointer (some ⟨p, 0, none⟩), Value.int IntKind.i64 z], Value.pointer (some ⟨p, 0, none⟩), Value.int IntKind.i64 z, Value.pointer (some ⟨p, 0, none⟩), Value.bool false, undef, undef, undef, Value.pointer (some ⟨p, 0, none⟩), Value.int IntKind.i64 x, Value.func (Fn.func 36) #[] #[Value.pointer (some ⟨Bs, 0, none⟩)], Value.func (Fn.func 36) #[] #[Value.pointer (some ⟨Bs, 0, none⟩)], Value.bool false, Value.func (Fn.func 36) #[] #[Value.pointer (some ⟨Bs, 0, none⟩)], .int .i64 zz, undef, undef, undef, undef, undef, undef, undef, undef, undef, undef, undef, undef, undef, undef, undef, undef, undef, undef, undef, undef, undef, undef, undef, undef, undef, undef, undef, undef, undef, undef, undef, undef, undef, undef, undef, undef, undef, undef, undef, undef, undef, undef, undef, undef, undef, undef, undef, undef, undef, undef, undef, undef, undef, undef, undef, undef, undef, undef, undef, undef, undef, undef, undef, undef, undef, undef, undef, undef, undef, undef, undef, undef, undef, undef], defers := [] }) ?assign ?body ?done ?stop
  case own =>
    rintro pre W W' row ⟨h1, h2, h3⟩ hg hr
    exact ⟨h1.kept hg (fun e => by have := (hr _ e.symm).1; omega), wrote_own h2 hg (fun r e => (hr r e).1), h3⟩
  case ownx =>
    rintro k pre W W' row ⟨h0, h1, h2, h3⟩ hg hr
    exact ⟨h0, h1.kept hg (fun e => by have := (hr _ e.symm).1; omega), wrote_own h2 hg (fun r e => (hr r e).1), h3⟩
  case start => exact ⟨k0, Wrote.refl _ _, by simp; omega⟩
  case assign =>
    intro l zz W K hK
    gi_wp2
    exact hK
  case body =>
    rintro l pre zz W ⟨hk, hwr, hnb⟩ hlt
    have hlL : pre.length < L := by have := HZL.out; omega
    have t2 : decide ((L : Int) < (pre.length : Int) + 1) = false := decide_eq_false (Int.not_lt.2 (by omega))
    have ck := hk.cell
    have fk := hk.frozen
    have hkw : wrap64 ((pre.length : Int) + 1) = (pre.length : Int) + 1 := by simp [wrap64]; omega
    have hW1 : Wrote (fun b => b = w4.heap.size + 1) W0 (W.setCell ⟨w4.heap.size + 1, 0, none⟩ (.int .i64 ((pre.length : Int) + 1))) := hwr.setCell (b := w4.heap.size + 1) (i := 0) rfl _
    have hk1 := hk.set (.int .i64 ((pre.length : Int) + 1))
    have ck1 := hk1.cell
    have n1 : Boxed (W.setCell ⟨w4.heap.size + 1, 0, none⟩ (.int .i64 ((pre.length : Int) + 1))) (w.heap.size + 1 + 1) 3 (.int .i64 c) := (hW1.block _ (by omega) (by omega)).trans n0
    have a1 : Boxed (W.setCell ⟨w4.heap.size + 1, 0, none⟩ (.int .i64 ((pre.length : Int) + 1))) w2.heap.size 27 (.pointer (some ⟨p, 0, none⟩)) := (hW1.block _ (by omega) (by omega)).trans a0
    have v1 : Boxed (W.setCell ⟨w4.heap.size + 1, 0, none⟩ (.int .i64 ((pre.length : Int) + 1))) (w.heap.size + 1) 3 (.int .i64 x) := (hW1.block _ (by omega) (by omega)).trans v0
    have cn1 := n1.cell
    have ca1 := a1.cell
    have cv1 := v1.cell
    have hbW1 : Below w2.heap.size w2 (W.setCell ⟨w4.heap.size + 1, 0, none⟩ (.int .i64 ((pre.length : Int) + 1))) := hb0.trans (hW1.below hb0.size (fun b hb => by omega))
    have hKp : KpW w2.heap.size Bs W (W.setCell ⟨w4.heap.size + 1, 0, none⟩ (.int .i64 ((pre.length : Int) + 1))) := ⟨(Below.refl _ _).setCell (p := ⟨w4.heap.size + 1, 0, none⟩) (by show w2.heap.size ≤ w4.heap.size + 1; omega) _, heap_setCell_other W ⟨w4.heap.size + 1, 0, none⟩ Bs _ (by show Bs ≠ w4.heap.size + 1; omega)⟩
    have HKP := Nu.hid hKp
    have HW1 := Nu.hid hW1
    have HK1 := Nu.hid hk1
    have HBW1 := Nu.hid hbW1
    have HKX : ∀ nq, Boxed ((W.setCell ⟨w4.heap.size + 1, 0, none⟩ (.int .i64 ((pre.length : Int) + 1))).drewN nq) (w4.heap.size + 1) 3 (.int .i64 (((pre ++ [zz]).length : Nat) : Int)) := fun nq => by
      have e : (((pre ++ [zz]).length : Nat) : Int) = (pre.length : Int) + 1 := by simp
      rw [e]
      exact hk1
    have h7 : 1 ≤ 9 - 1 - 1 := by omega
    clear hKp hW1 hk1 hbW1 n1 a1 v1 hwr
    by_cases hc : (pre.length : Int) + 1 = c
    · have t1 : ((pre.length : Int) + 1 == c) = true := by simp [hc]
      have HC : Hid ((((pre ++ [zz]).length : Nat) : Int) = c ∧ 1 ≤ (pre ++ [zz]).length ∧ (pre ++ [zz]).length ≤ L) := Nu.hid ⟨by rw [List.length_append]; exact hc, by rw [List.length_append]; exact Nat.le_add_left _ _, by rw [List.length_append]; exact hlL⟩
      clear hc
      gi_wp2
      refine wpIn_region_quiet_lit (by kernel_rfl) (by kernel_rfl) (by kernel_rfl) ?_
      repeat (go_big_quiet_step (fail))
      refine wpQuiet_nil ?_
      intro _ hw'
      obtain ⟨nq, hw''⟩ := hw'
      subst hw''
      gi_wp2
      exact ⟨((KeepsOthers.setCell _ _ _).trans (KeepsOthers.of_drewN _ _)).from _, rfl, HKX nq, HW1.out.drewN _, HC.out⟩
    · have t1 : ((pre.length : Int) + 1 == c) = false := by simp [hc]
      have HC : Hid (¬ (1 ≤ c ∧ c ≤ (((pre ++ [zz]).length : Nat) : Int))) := Nu.hid (by rw [List.length_append]; exact no_more hnb hc)
      clear hc
      gi_wp2
      refine wpIn_region_quiet_lit (by kernel_rfl) (by kernel_rfl) (by kernel_rfl) ?_
      repeat (go_big_quiet_step ((go_at_call 21; exact Calls.quiet_of_same (HDEG.out _ (below_drewN HBW1.out _)))))
      refine wpQuiet_nil ?_
      intro _ hw'
      obtain ⟨nq, hw''⟩ := hw'
      subst hw''
      gi_wp2
      exact ⟨((KeepsOthers.setCell _ _ _).trans (KeepsOthers.of_drewN _ _)).from _, ⟨below_drewN HKP.out.1 _, HKP.out.2⟩, HKX nq, HW1.out.drewN _, HC.out⟩
  case done =>
    rintro D xs W hD rfl ⟨h1, h2, h3⟩ hm
    have hw : ((xs.length : Nat) : Int) = if 1 ≤ c ∧ c < (L : Int) then c else (L : Int) := by
      have e := HZL.out
      rw [← e] at h3 ⊢
      rw [if_neg (fun h => h3 ⟨h.1, by omega⟩)]
    exact key D _ W hD h1 h2 hw hm
  case stop =>
    rintro D c1 pre W hD _ ⟨rfl, h1, h2, h3, h4, h5⟩ hm
    have hw : ((pre.length : Nat) : Int) = if 1 ≤ c ∧ c < (L : Int) then c else (L : Int) := by
      split <;> omega
    gi_wp2
    exact key D _ W hD h1 h2 hw hm

set_option maxRecDepth 100000 in
/-- What the walk gives, for every argument and every world. -/
theorem contract (H : Type) (enc : TypeId × Value → H) (W : World) (base : Nat) (args : Array Value) (ds gs : List (DataW H)) (before : List MemPlace)
    (hval : ∀ (j : Nat) t v, Try.f5.params[j]? = some t → args[j]? = some v → Value.okWide Try.prog W .any base t v)
    (hW : DataW.Whole enc Try.prog Try.f5.params.toList Rows.csrIterSpec.vars false W args.toList ds gs before)
    (hsz : (DataW.weightsEach Try.prog (Try.f5.params.toList ++ (OpenSpec.ofChange Rows.csrIterSpec).bare.plain.varTypes Try.prog) (ds ++ gs)).all (· ≤ reachBytes) = true)
    :
    Calls Try.prog 5 args W fun e W' => ∃ v, e = .returned v ∧ Rows.csrIterSpec.post enc Try.prog Try.f5 false true false false W args v W' := by
  have hW' := hW
  obtain ⟨p, q, hA0, hV, rfl, hfz, hnd⟩ := hW
  have hA : DataW.TrodAll enc Try.prog W 0 (fun _ => true) true Try.f5.params.toList args.toList ds p := hA0
  rw [Try.params5] at hA hval hsz
  obtain ⟨v0, vs0, d0, ds0, p0, q0, hargs, rfl, rfl, h0, r0⟩ := trodAll_cons hA
  obtain ⟨v1, vs1, d1, ds1, p1, q1, rfl, rfl, rfl, h1, r1⟩ := trodAll_cons r0
  obtain ⟨v2, vs2, d2, ds2, p2, q2, rfl, rfl, rfl, h2, r2⟩ := trodAll_cons r1
  obtain ⟨rfl, rfl, rfl⟩ := trodAll_nil r2
  obtain rfl : args = #[v0, v1, v2] := by cases args; simp_all
  obtain ⟨rfl, rfl⟩ := trodVars_none hV
  have k0 := h0
  have lt0 : ∀ x ∈ p0, x.block < W.heap.size := by obtain ⟨m, hm⟩ := k0; exact DataW.trod_lt m _ _ _ hm
  obtain ⟨n0, a0, cap0, q0, rfl, x0, w0, u0⟩ := graph_of_trod (j := 0) (hval 0 24 v0 rfl rfl) h0 hsz rfl rfl
  obtain ⟨a1, rfl, rfl, rfl, w1⟩ := open_int Try.underlying3 (hval 1 3 v1 rfl rfl) h1
  obtain ⟨a2, rfl, rfl, rfl, w2⟩ := open_int Try.underlying3 (hval 2 3 v2 rfl rfl) h2
  clear hA0
  refine (walk n0 a0 cap0 q0 a1 a2 W x0 w0 u0 w1 w2).mono fun e W' ⟨he, bel⟩ => ?_
  subst he
  exact ⟨_, rfl, _, _, _, [], _, [], hW', trodAll_mk1 (shut_bool Try.underlying4 _), (trodAll_cons_mk (Below.trod laidOut (by kernel_rfl) (of_decide_eq_true (by kernel_rfl)) k0 bel lt0) (trodAll_cons_mk (shut_int Try.underlying3 w1) (trodAll_cons_mk (shut_int Try.underlying3 w2) trodAll_mk0))), rfl, bel.frame _, fun h => by cases h⟩

theorem laid_met (os : Os) : laidMet Try.prog Rows.csrIterRow.laid ((settled os).forCall (fun _ _ => 0) ⟨#[], #[.agg #[.int .i64 0, .slice none 0 0], .int .i64 0, .int .i64 0], []⟩).memory :=
  laidMet_of_run' 100 (by kernel_rfl) (by kernel_rfl)
theorem reads (os : Os) {H : Type} (enc : TypeId × Value → H) : ∃ places, DataW.whole enc Try.prog ((settled os).forCall (fun _ _ => 0) ⟨#[], #[.agg #[.int .i64 0, .slice none 0 0], .int .i64 0, .int .i64 0], []⟩).memory Try.f5.params.toList Rows.csrIterSpec.vars false (#[.agg #[.int .i64 0, .slice none 0 0], .int .i64 0, .int .i64 0] : Array Value).toList 8 = some ([.agg [.lit (.int .i64 0), .nil], .lit (.int .i64 0), .lit (.int .i64 0)], [], places) :=
  ⟨[], by kernel_rfl⟩

set_option maxRecDepth 100000 in
theorem lifted (os : Os) (started : os.Started) (H : Type) (enc : TypeId × Value → H) (F : Stop.Interp) :
    ReturnsInHanded {} Try.checked os 5 .any ((OpenSpec.ofChange Rows.csrIterSpec).preRow enc Try.prog Try.f5 Rows.csrIterRow.domain false Rows.csrIterRow.laid) (((OpenSpec.ofChange Rows.csrIterSpec).at F).post enc Try.prog Try.f5 false true false false) := by
  obtain ⟨places, hx⟩ := reads os enc
  refine returnsInHanded_of_row (C := Try.checked) (s := (OpenSpec.ofChange Rows.csrIterSpec)) own started (by kernel_rfl) Try.func5
    (witness_row_at (enc := enc) (C := Try.checked) false (settled os) #[.agg #[.int .i64 0, .slice none 0 0], .int .i64 0, .int .i64 0] rfl (by kernel_rfl) (by kernel_rfl) (by kernel_rfl)
      (OpenSpec.preRow_of_cond 8 hx (by kernel_rfl) (fun k hk => by cases hk) (by kernel_rfl) (laid_met os))) ?_
  intro W base args ds gs before hval hW _ _ hsz _ _ _
  exact contract H enc W base args ds gs before hval hW hsz 

theorem said : Rows.CsrIterSaid :=
  OpenClaim.holds_of_cond 5 Try.f5 rfl rfl rfl rfl rfl rfl rfl ⟨rfl, rfl, rfl, rfl, rfl⟩ rfl rfl rfl rfl rfl (by kernel_rfl) Try.func5 (by kernel_rfl)
    (of_decide_eq_true (by kernel_rfl)) (by unfold Func.isWrapper; first | (rw [if_pos (by decide +kernel)]; kernel_rfl) | (rw [if_neg (by decide +kernel)]; exact ⟨rfl, rfl⟩))
    (fun os started H enc _ F => by rw [OpenClaim.pre_eq_preRow]; exact lifted os started H enc F)

end lawIter

theorem csrIter_holds : Rows.CsrIterSaid := lawIter.said

#print axioms csrIter_holds
end Go.Proofs.Ytlnkcebfnamdcaa
