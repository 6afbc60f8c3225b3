/-
  Proved: for every graph, every edge and every number the law SimpleAsks answers true, and what was handed in reads afterwards as before.
-/
import Derived.Test.YtmgjfakdjponoaaDoorSiOpen
import Derived.Test.YtmgjfakdjponoaaDoorSiWakes
import Derived.Test.YtmgjfakdjponoaaDoorSiREq
import Derived.Test.YtmgjfakdjponoaaDoorSiREnds
import Derived.Test.YtmgjfakdjponoaaDoorSiDeg
import Derived.Test.YtmgjfakdjponoaaDoorSiSameI
namespace Go.Proofs.YtmgjfakdjponoaaDoor
open Go.ChangeShapes Go.WideShapes Go.ChangeAt Go.RowKit

theorem two_boxes (w : World) (A B : Obj) : ((w.alloc A).alloc B).heap[w.heap.size]? = some A ∧ ((w.alloc A).alloc B).heap[w.heap.size + 1]? = some B := by
  refine ⟨?_, ?_⟩
  · rw [Below.heap_alloc _ _ _ (by simp)]
    exact heap_alloc_new w _
  · have := heap_alloc_new (w.alloc A) B
    simpa using this

namespace lawAsks

open Classical in
/-- The degrees, and the error's number. -/
noncomputable def degr (n : Int) (es : List (Int × Int)) : List Int × Int := if Si.valid n es = true then (Si.degs n es, 0) else ([], 1)

def DegU (r : List Int × Int) (w : World) (e : Ending) (w' : World) : Prop :=
  ∃ a k, e = .returned (.tuple #[.slice a k k, .int .i64 r.2]) ∧ r.1.length = k ∧ IntsAt w' a r.1 ∧ k ≤ 1048576 ∧ Below w.heap.size w w'

theorem degU_of {n : Int} {es : List (Int × Int)} {w w' : World} {e : Ending} (h : DegPost n es w e w') : DegU (degr n es) w e w' := by
  obtain ⟨h | h, hb⟩ := h
  · obtain ⟨hv, g, m, hm, rfl, _, hik⟩ := h
    have hhi := (Si.valid_iff.1 hv).hi
    have e : degr n es = (Si.degs n es, 0) := by unfold degr; rw [if_pos hv]
    rw [e]
    exact ⟨_, m, rfl, by rw [Si.degs_length, hm]; simp, hik.at, by omega, hb⟩
  · obtain ⟨hv, rfl⟩ := h
    have e : degr n es = ([], 1) := by unfold degr; rw [if_neg (by rw [hv]; simp)]
    rw [e]
    exact ⟨_, 0, rfl, rfl, IntsAt.nil _ _, Nat.zero_le _, hb⟩

set_option maxRecDepth 100000 in
set_option maxHeartbeats 16000000 in
theorem walk (n : Int) (ao : Option Addr) (ca : Nat) (es : List (Int × Int)) (t : Int × Int) (h : Int) (w : World) (_ : -9223372036854775808 ≤ n ∧ n ≤ 9223372036854775807) (hq : PairsIn w ao es.length ca es) (hle : es.length * 16 ≤ 140737488351232)
    (_ : In64 t) (hw : (Lit.int .i64 h).wf = true) (ht : Tab w) :
    Calls Tryd.prog 4 #[.agg #[.int .i64 n, .slice ao es.length ca], edgeVal t, .int .i64 h] w fun e w' => e = .returned (.bool true) ∧ Below w.heap.size w w' := by
  have HQ := Nu.hid hq
  have HTAB := Nu.hid ht
  have hhb := (bounds_i64 hw).2
  clear hq ht hw
  unfold edgeVal
  have hbw0 : Below w.heap.size w ((w.alloc (.cells #[.int .i64 n, .slice ao es.length ca] 26)).alloc (.cells #[.int .i64 t.1, .int .i64 t.2] 36)) := ((Below.refl _ _).alloc (Nat.le_refl _) _).alloc (by simp) _
  have HB0 := Nu.hid hbw0
  clear hbw0
  obtain ⟨ga, gb⟩ := two_boxes w (.cells #[.int .i64 n, .slice ao es.length ca] 26) (.cells #[.int .i64 t.1, .int .i64 t.2] 36)
  have HG0 := Nu.hid ga
  have HT0 := Nu.hid gb
  have hs0 := lt_of_block ga
  have ht0 := lt_of_block gb
  clear ga gb
  have hrd : ∀ (a : Option Addr) (c : Nat) (W : World), EdgesAt W a es → Calls Tryd.prog 18 #[.agg #[.int .i64 n, .slice a es.length c]] W (DegU (degr n es) W) := fun a c W h => (rdegrees_any n a c es W h (by omega)).mono fun e w' h => degU_of h
  have hpd : ∀ (a : Option Addr) (c : Nat) (W : World), EdgesAt W a es → Calls Tryd.prog 17 #[.agg #[.int .i64 n, .slice a es.length c]] W (DegU (degr n es) W) := fun a c W h => (degrees_any n a c es W h (by omega)).mono fun e w' h => degU_of h
  generalize degr n es = dg at hrd hpd
  obtain ⟨dl, dc⟩ := dg
  have HRD := Nu.hid hrd
  have HPD := Nu.hid hpd
  have hre : ∀ (a : Option Addr) (c : Nat) (W : World), EdgesAt W a es → Calls Tryd.prog 16 #[.agg #[.int .i64 n, .slice a es.length c], .int .i64 h] W fun e w' => e = .returned (.tuple #[.int .i64 (Si.ends n es h).1, .int .i64 (Si.ends n es h).2.1, .bool (Si.ends n es h).2.2]) ∧ Below W.heap.size W w' := fun a c W hE => rends_any n a c es h W hE (by omega) hhb
  have hpe : ∀ (a : Option Addr) (c : Nat) (W : World), EdgesAt W a es → Calls Tryd.prog 14 #[.agg #[.int .i64 n, .slice a es.length c], .int .i64 h] W fun e w' => e = .returned (.tuple #[.int .i64 (Si.ends n es h).1, .int .i64 (Si.ends n es h).2.1, .bool (Si.ends n es h).2.2]) ∧ Below W.heap.size W w' := fun a c W hE => ends_any n a c es h W hE (by omega)
  generalize Si.ends n es h = en at hre hpe
  obtain ⟨ea, eb, ec⟩ := en
  dsimp only at hre hpe
  have HRE := Nu.hid hre
  have HPE := Nu.hid hpe
  have hpv : ∀ (a : Option Addr) (c : Nat) (W : World), EdgesAt W a es → Calls Tryd.prog 20 #[.agg #[.int .i64 n, .slice a es.length c]] W fun e w' => e = .returned (.bool (Si.valid n es)) ∧ Below W.heap.size W w' := fun a c W hE => valid_any n a c es W hE (by omega)
  have hrv : ∀ (a : Option Addr) (c : Nat) (W : World), EdgesAt W a es → Calls Tryd.prog 21 #[.agg #[.int .i64 n, .slice a es.length c]] W fun e w' => e = .returned (.bool (Si.valid n es)) ∧ Below W.heap.size W w' := fun a c W hE => rvalid_any n a c es W hE (by omega)
  generalize Si.valid n es = vb at hpv hrv
  have HPV := Nu.hid hpv
  have HRV := Nu.hid hrv
  clear hrd hpd hre hpe hpv hrv
  go_enter Tryd.func4, Tryd.ntmps4
  go_wp2_with (go_at_call 9; refine (wakes_any _ (HTAB.out.below HB0.out)).mono ?_; rintro e w1 ⟨rfl, hb⟩; refine Hid.out ?_)
  refine Nu.hid ?_
  have hG1 := (hb.block _ hs0).trans HG0.out
  have hT1 := (hb.block _ ht0).trans HT0.out
  obtain ⟨x0, x1, -⟩ := pair_cells hG1
  obtain ⟨y0, y1, -⟩ := pair_cells hT1
  have hs1 := lt_of_block hG1
  have ht1 := lt_of_block hT1
  have HB1 := Nu.hid (HB0.out.trans (hb.mono HB0.out.size))
  have HG1 := Nu.hid hG1
  have HT1 := Nu.hid hT1
  clear hb hG1 hT1
  go_wp2_with (go_at_call 15; refine (rcopy_any n ao ca es _ (HQ.out.hat.later HB1.out) (by omega)).mono ?_; rintro e w2 ⟨v, rfl, hown, hb⟩; obtain ⟨a, c, rfl, _, _, hea, _⟩ := hown.form; refine Hid.out ?_)
  refine Nu.hid ?_
  have hG2 := (hb.block _ hs1).trans HG1.out
  have hT2 := (hb.block _ ht1).trans HT1.out
  clear x0 x1 y0 y1
  obtain ⟨x0, x1, -⟩ := pair_cells hG2
  obtain ⟨y0, y1, -⟩ := pair_cells hT2
  have hs2 := lt_of_block hG2
  have ht2 := lt_of_block hT2
  have HB2 := Nu.hid (HB1.out.trans (hb.mono HB1.out.size))
  have HG2 := Nu.hid hG2
  have HT2 := Nu.hid hT2
  clear hb hG2 hT2 hown
  have HEA2 := Nu.hid hea
  clear hea
  go_wp2_with (go_at_call 14; refine (HPE.out _ _ _ HEA2.out).mono ?_; rintro e w3 ⟨rfl, hb⟩; refine Hid.out ?_)
  refine Nu.hid ?_
  have hG3 := (hb.block _ hs2).trans HG2.out
  have hT3 := (hb.block _ ht2).trans HT2.out
  clear x0 x1 y0 y1
  obtain ⟨x0, x1, -⟩ := pair_cells hG3
  obtain ⟨y0, y1, -⟩ := pair_cells hT3
  have hs3 := lt_of_block hG3
  have ht3 := lt_of_block hT3
  have HB3 := Nu.hid (HB2.out.trans (hb.mono HB2.out.size))
  have HG3 := Nu.hid hG3
  have HT3 := Nu.hid hT3
  clear hb hG3 hT3
  go_wp2_with (go_at_call 16; refine (HRE.out _ _ _ (HQ.out.hat.later HB3.out)).mono ?_; rintro e w4 ⟨rfl, hb⟩; refine Hid.out ?_)
  refine Nu.hid ?_
  have hG4 := (hb.block _ hs3).trans HG3.out
  have hT4 := (hb.block _ ht3).trans HT3.out
  clear x0 x1 y0 y1
  obtain ⟨x0, x1, -⟩ := pair_cells hG4
  obtain ⟨y0, y1, -⟩ := pair_cells hT4
  have hs4 := lt_of_block hG4
  have ht4 := lt_of_block hT4
  have HB4 := Nu.hid (HB3.out.trans (hb.mono HB3.out.size))
  have HG4 := Nu.hid hG4
  have HT4 := Nu.hid hT4
  clear hb hG4 hT4
  go_wp2_with (go_at_call 15; refine (rcopy_any n ao ca es _ (HQ.out.hat.later HB4.out) (by omega)).mono ?_; rintro e w5 ⟨v, rfl, hown, hb⟩; obtain ⟨a, c, rfl, _, _, hea, _⟩ := hown.form; refine Hid.out ?_)
  refine Nu.hid ?_
  have hG5 := (hb.block _ hs4).trans HG4.out
  have hT5 := (hb.block _ ht4).trans HT4.out
  clear x0 x1 y0 y1
  obtain ⟨x0, x1, -⟩ := pair_cells hG5
  obtain ⟨y0, y1, -⟩ := pair_cells hT5
  have hs5 := lt_of_block hG5
  have ht5 := lt_of_block hT5
  have HB5 := Nu.hid (HB4.out.trans (hb.mono HB4.out.size))
  have HG5 := Nu.hid hG5
  have HT5 := Nu.hid hT5
  clear hb hG5 hT5 hown
  have HEA5 := Nu.hid hea
  clear hea
  go_wp2_with (go_at_call 17; refine (HPD.out _ _ _ HEA5.out).mono ?_; rintro e w6 ⟨da, dk, rfl, hdl, hia, hdk, hb⟩; refine Hid.out ?_)
  refine Nu.hid ?_
  have hG6 := (hb.block _ hs5).trans HG5.out
  have hT6 := (hb.block _ ht5).trans HT5.out
  clear x0 x1 y0 y1
  obtain ⟨x0, x1, -⟩ := pair_cells hG6
  obtain ⟨y0, y1, -⟩ := pair_cells hT6
  have hs6 := lt_of_block hG6
  have ht6 := lt_of_block hT6
  have HB6 := Nu.hid (HB5.out.trans (hb.mono HB5.out.size))
  have HG6 := Nu.hid hG6
  have HT6 := Nu.hid hT6
  clear hb hG6 hT6
  have HIA := Nu.hid hia
  clear hia
  go_wp2_with (go_at_call 18; refine (HRD.out _ _ _ (HQ.out.hat.later HB6.out)).mono ?_; rintro e w7 ⟨ra, rk, rfl, hrl, hir, hrk, hb⟩; have HIAB := Nu.hid (HIA.out.later hb); refine Hid.out ?_)
  refine Nu.hid ?_
  have hG7 := (hb.block _ hs6).trans HG6.out
  have hT7 := (hb.block _ ht6).trans HT6.out
  clear x0 x1 y0 y1
  obtain ⟨x0, x1, -⟩ := pair_cells hG7
  obtain ⟨y0, y1, -⟩ := pair_cells hT7
  have hs7 := lt_of_block hG7
  have ht7 := lt_of_block hT7
  have HB7 := Nu.hid (HB6.out.trans (hb.mono HB6.out.size))
  have HG7 := Nu.hid hG7
  have HT7 := Nu.hid hT7
  clear hb hG7 hT7
  have HIR := Nu.hid hir
  clear hir
  have hsi := sameints_any da ra dk rk dk rk dl dl w7 hdl hrl HIAB.out HIR.out (by omega)
  have hdd : decide (dl = dl) = true := by simp
  rw [hdd] at hsi
  have HSI := Nu.hid hsi
  clear hsi hdd
  go_wp2_with (go_at_call 19; refine (HSI.out).mono ?_; rintro e w8 ⟨rfl, hb⟩; refine Hid.out ?_)
  refine Nu.hid ?_
  have hG8 := (hb.block _ hs7).trans HG7.out
  have hT8 := (hb.block _ ht7).trans HT7.out
  clear x0 x1 y0 y1
  obtain ⟨x0, x1, -⟩ := pair_cells hG8
  obtain ⟨y0, y1, -⟩ := pair_cells hT8
  have hs8 := lt_of_block hG8
  have ht8 := lt_of_block hT8
  have HB8 := Nu.hid (HB7.out.trans (hb.mono HB7.out.size))
  have HG8 := Nu.hid hG8
  have HT8 := Nu.hid hT8
  clear hb hG8 hT8
  have hbr : Below w8.heap.size w8 w8.drew := (Below.refl _ _).drew
  have hS : ∀ W, Below w8.heap.size w8 W → (W.cell? ⟨w.heap.size, 0, none⟩ = some (.int .i64 n) ∧ W.cell? ⟨w.heap.size, 1, none⟩ = some (.slice ao es.length ca) ∧ W.cell? ⟨w.heap.size + 1, 0, none⟩ = some (.int .i64 t.1) ∧ W.cell? ⟨w.heap.size + 1, 1, none⟩ = some (.int .i64 t.2) ∧ Below w8.heap.size w8 W) := fun W h =>
    ⟨(h.cell (p := ⟨w.heap.size, 0, none⟩) hs8).trans x0, (h.cell (p := ⟨w.heap.size, 1, none⟩) hs8).trans x1, (h.cell (p := ⟨w.heap.size + 1, 0, none⟩) ht8).trans y0, (h.cell (p := ⟨w.heap.size + 1, 1, none⟩) ht8).trans y1, h⟩
  have HS := Nu.hid hS
  have hcg : ∀ (W : World), Below w8.heap.size w8 W → Calls Tryd.prog 15 #[.agg #[.int .i64 n, .slice ao es.length ca]] W fun e W2 => ∃ a c, e = .returned (.agg #[.int .i64 n, .slice a es.length c]) ∧ EdgesAt W2 a es ∧ Below W.heap.size W W2 ∧ Below w8.heap.size w8 W2 := fun W h => by
    refine (rcopy_any n ao ca es W (HQ.out.hat.later (HB8.out.trans (h.mono HB8.out.size))) (by omega)).mono ?_
    rintro e W2 ⟨v, rfl, hown, hb⟩
    obtain ⟨a, c, rfl, _, _, hea, _⟩ := hown.form
    exact ⟨a, c, rfl, hea, hb, h.trans (hb.mono h.size)⟩
  have HCG := Nu.hid hcg
  have hfi : ∀ (a : Option Addr) (c : Nat) (W : World), EdgesAt W a es → Calls Tryd.prog 22 #[.agg #[.int .i64 n, .slice a es.length c], .agg #[.int .i64 t.1, .int .i64 t.2]] W fun e w' => (∃ r : Int, Si.IsFind n es t r ∧ e = .returned (.int .i64 r)) ∧ Below W.heap.size W w' := fun a c W hE => find_any n a c es t W hE (by omega)
  have hrf : ∀ (a : Option Addr) (c : Nat) (W : World), EdgesAt W a es → Calls Tryd.prog 23 #[.agg #[.int .i64 n, .slice a es.length c], .agg #[.int .i64 t.1, .int .i64 t.2]] W fun e w' => (∃ r : Int, Si.IsFind n es t r ∧ e = .returned (.int .i64 r)) ∧ Below W.heap.size W w' := fun a c W hE => rfind_any n a c es t W hE (by omega)
  have HFI := Nu.hid hfi
  have HRF := Nu.hid hrf
  have hea0 : EdgesAt w8 ao es := HQ.out.hat.later HB8.out
  clear hcg hS hfi hrf
  go_wp2_with fail
  go_region_held3 (fun W => W.cell? ⟨w.heap.size, 0, none⟩ = some (.int .i64 n) ∧ W.cell? ⟨w.heap.size, 1, none⟩ = some (.slice ao es.length ca) ∧ W.cell? ⟨w.heap.size + 1, 0, none⟩ = some (.int .i64 t.1) ∧ W.cell? ⟨w.heap.size + 1, 1, none⟩ = some (.int .i64 t.2) ∧ Below w8.heap.size w8 W)
    (exact HS.out _ (by first | assumption | exact hbr))
    ((first
      | (go_at_call 15; refine (HCG.out _ (by first | assumption | exact hbr)).mono ?_; rintro e W2 ⟨aa, cc, rfl, hea, hbs, hbz⟩)
      | (go_at_call 20; refine (HPV.out _ _ _ (by first | assumption | exact EdgesAt.later (by assumption) (by assumption))).mono ?_; rintro e W2 ⟨rfl, hbs⟩; have hbz : Below w8.heap.size w8 W2 := Below.trans (by first | assumption | exact hbr) (hbs.mono (Below.size (by first | assumption | exact hbr))))
      | (go_at_call 21; refine (HRV.out _ _ _ (EdgesAt.later hea0 (by first | assumption | exact hbr))).mono ?_; rintro e W2 ⟨rfl, hbs⟩; have hbz : Below w8.heap.size w8 W2 := Below.trans (by first | assumption | exact hbr) (hbs.mono (Below.size (by first | assumption | exact hbr))))
      | (go_at_call 22; refine (HFI.out _ _ _ (by first | assumption | exact EdgesAt.later (by assumption) (by assumption))).mono ?_; rintro e W2 ⟨⟨r1, hr1, rfl⟩, hbs⟩; have hbz : Below w8.heap.size w8 W2 := Below.trans (by first | assumption | exact hbr) (hbs.mono (Below.size (by first | assumption | exact hbr))))
      | (go_at_call 23; refine (HRF.out _ _ _ (EdgesAt.later hea0 (by first | assumption | exact hbr))).mono ?_; rintro e W2 ⟨⟨r2, hr2, rfl⟩, hbs⟩; have hbz : Below w8.heap.size w8 W2 := Below.trans (by first | assumption | exact hbr) (hbs.mono (Below.size (by first | assumption | exact hbr))))))
  all_goals
    have hrr := Si.IsFind.same hr1 hr2
    subst hrr
    go_wp2
    go_ret
    exact ⟨by simp, HB8.out.trans (hbz.mono HB8.out.size)⟩

set_option maxRecDepth 100000 in
/-- What the walk gives, for every argument and every world that holds the tables. -/
theorem contract (H : Type) (enc : TypeId × Value → H) (W : World) (base : Nat) (args : Array Value) (ds gs : List (DataW H)) (before : List MemPlace)
    (hval : ∀ (j : Nat) t v, Tryd.f4.params[j]? = some t → args[j]? = some v → Value.okWide Tryd.prog W .any base t v)
    (hW : DataW.Whole enc Tryd.prog Tryd.f4.params.toList Rows.simpleAsksSpec.vars false W args.toList ds gs before)
    (hsz : (DataW.weightsEach Tryd.prog (Tryd.f4.params.toList ++ (OpenSpec.ofChange Rows.simpleAsksSpec).bare.plain.varTypes Tryd.prog) (ds ++ gs)).all (· ≤ reachBytes) = true)
    (hL : laidMet Tryd.prog listed W) :
    Calls Tryd.prog 4 args W fun e W' => ∃ v, e = .returned v ∧ Rows.simpleAsksSpec.post enc Tryd.prog Tryd.f4 false true false false W args v W' := by
  have hW' := hW
  obtain ⟨p, q, hA0, hV, rfl, hfz, hnd⟩ := hW
  have hA : DataW.TrodAll enc Tryd.prog W 0 (fun _ => true) true Tryd.f4.params.toList args.toList ds p := hA0
  rw [Tryd.params4] at hA hval hsz
  obtain ⟨v0, vs0, d0, ds0, p0, q0, hargs, rfl, rfl, h0, r0⟩ := trodAll_cons hA
  obtain ⟨v1, vs1, d1, ds1, p1, q1, rfl, rfl, rfl, h1, r1⟩ := trodAll_cons r0
  obtain ⟨v2, vs2, d2, ds2, p2, q2, rfl, rfl, rfl, h2, r2⟩ := trodAll_cons r1
  obtain ⟨rfl, rfl, rfl⟩ := trodAll_nil r2
  obtain rfl : args = #[v0, v1, v2] := by cases args; simp_all
  obtain ⟨rfl, rfl⟩ := trodVars_none hV
  have k0 := h0
  have lt0 : ∀ x ∈ p0, x.block < W.heap.size := by obtain ⟨m, hm⟩ := k0; exact DataW.trod_lt m _ _ _ hm
  obtain ⟨n0, a0, cap0, q0, rfl, x0, w0, u0⟩ := graph_of_trod (j := 0) (hval 0 26 v0 rfl rfl) h0 hsz rfl rfl
  have k1 := h1
  have lt1 : ∀ x ∈ p1, x.block < W.heap.size := by obtain ⟨m, hm⟩ := k1; exact DataW.trod_lt m _ _ _ hm
  obtain ⟨q1, rfl, w1⟩ := edge_of_trod (hval 1 36 v1 rfl rfl) h1
  obtain ⟨a2, rfl, rfl, rfl, w2⟩ := open_int Tryd.underlying3 (hval 2 3 v2 rfl rfl) h2
  clear hA0
  refine (walk n0 a0 cap0 q0 q1 a2 W x0 w0 u0 w1 w2 (table hL)).mono fun e W' ⟨he, bel⟩ => ?_
  subst he
  exact ⟨_, rfl, _, _, _, [], _, [], hW', trodAll_mk1 (shut_bool Tryd.underlying4 _), (trodAll_cons_mk (Below.trod laidOut (by kernel_rfl) (of_decide_eq_true (by kernel_rfl)) k0 bel lt0) (trodAll_cons_mk (Below.trod laidOut (by kernel_rfl) (of_decide_eq_true (by kernel_rfl)) k1 bel lt1) (trodAll_cons_mk (shut_int Tryd.underlying3 w2) trodAll_mk0))), rfl, bel.frame _, fun h => by cases h⟩

theorem laid_met (os : Os) : laidMet Tryd.prog Rows.simpleAsksRow.laid ((laidWorld os).forCall (fun _ _ => 0) ⟨#[], #[.agg #[.int .i64 0, .slice none 0 0], .agg #[.int .i64 0, .int .i64 0], .int .i64 0], []⟩).memory :=
  laidMet_of_run' 100 (by kernel_rfl) (by kernel_rfl)
theorem reads (os : Os) {H : Type} (enc : TypeId × Value → H) : ∃ places, DataW.whole enc Tryd.prog ((laidWorld os).forCall (fun _ _ => 0) ⟨#[], #[.agg #[.int .i64 0, .slice none 0 0], .agg #[.int .i64 0, .int .i64 0], .int .i64 0], []⟩).memory Tryd.f4.params.toList Rows.simpleAsksSpec.vars false (#[.agg #[.int .i64 0, .slice none 0 0], .agg #[.int .i64 0, .int .i64 0], .int .i64 0] : Array Value).toList 8 = some ([.agg [.lit (.int .i64 0), .nil], .agg [.lit (.int .i64 0), .lit (.int .i64 0)], .lit (.int .i64 0)], [], places) :=
  ⟨[], by kernel_rfl⟩

set_option maxRecDepth 100000 in
theorem lifted (os : Os) (started : os.Started) (H : Type) (enc : TypeId × Value → H) (F : Stop.Interp) :
    ReturnsInHanded {} Tryd.checked os 4 .any ((OpenSpec.ofChange Rows.simpleAsksSpec).preRow enc Tryd.prog Tryd.f4 Rows.simpleAsksRow.domain false Rows.simpleAsksRow.laid) (((OpenSpec.ofChange Rows.simpleAsksSpec).at F).post enc Tryd.prog Tryd.f4 false true false false) := by
  obtain ⟨places, hx⟩ := reads os enc
  refine returnsInHanded_of_row (C := Tryd.checked) (s := (OpenSpec.ofChange Rows.simpleAsksSpec)) own started (by kernel_rfl) Tryd.func4
    (witness_row_at (enc := enc) (C := Tryd.checked) false (laidWorld os) #[.agg #[.int .i64 0, .slice none 0 0], .agg #[.int .i64 0, .int .i64 0], .int .i64 0] rfl (by kernel_rfl) (by kernel_rfl) (by kernel_rfl)
      (OpenSpec.preRow_of_cond 8 hx (by kernel_rfl) (fun k hk => by cases hk) (by kernel_rfl) (laid_met os))) ?_
  intro W base args ds gs before hval hW _ hcond hsz hL _ _
  exact contract H enc W base args ds gs before hval hW hsz hL

theorem said : Rows.SimpleAsksSaid :=
  OpenClaim.holds_of_cond 4 Tryd.f4 rfl rfl rfl rfl rfl rfl rfl ⟨rfl, rfl, rfl, rfl, rfl⟩ rfl rfl rfl rfl rfl (by kernel_rfl) Tryd.func4 (by kernel_rfl)
    (of_decide_eq_true (by kernel_rfl)) (by unfold Func.isWrapper; first | (rw [if_pos (by decide +kernel)]; kernel_rfl) | (rw [if_neg (by decide +kernel)]; exact ⟨rfl, rfl⟩))
    (fun os started H enc _ F => by rw [OpenClaim.pre_eq_preRow]; exact lifted os started H enc F)

theorem plain (f : FuncId) (fn : Func) (hf : Tryd.pinned.checked.prog.funcNamed "tangram/tangramlaw03.SimpleAsks" = some f) (hfn : Tryd.pinned.checked.prog.funcs[f]? = some fn) :
    true = Tryd.pinned.checked.prog.looks [] ∧ ∀ (j : Nat) t, fn.params[j]? = some t → Tryd.pinned.checked.prog.wantsStandIn t = false := by
  obtain rfl : f = 4 := Option.some.inj ((show Tryd.prog.funcNamed "tangram/tangramlaw03.SimpleAsks" = some 4 by kernel_rfl).symm.trans hf) |>.symm
  obtain rfl : fn = Tryd.f4 := (Option.some.inj (Tryd.func4.symm.trans hfn)).symm
  refine ⟨by kernel_rfl, fun j t ht => ?_⟩
  rw [Tryd.params4] at ht
  obtain hx : t = 26 ∨ t = 36 ∨ t = 3 := by simpa using Array.mem_of_getElem? ht
  rcases hx with rfl | rfl | rfl
  · exact (show Tryd.prog.wantsStandIn 26 = false by kernel_rfl)
  · exact (show Tryd.prog.wantsStandIn 36 = false by kernel_rfl)
  · exact (show Tryd.prog.wantsStandIn 3 = false by kernel_rfl)

theorem card : Rows.SimpleAsksCardSaid :=
  Claim7.holds_tied_plain_at .later [] _ _ _ _ said (fun _ h => by cases h) (by kernel_rfl) (fun _ h => by cases h) simpleAsks_row_tie rfl ⟨rfl, rfl⟩ (by kernel_rfl) rfl plain (by kernel_rfl)

end lawAsks

theorem simpleAsks_holds : Rows.SimpleAsksCardSaid := lawAsks.card

end Go.Proofs.YtmgjfakdjponoaaDoor
