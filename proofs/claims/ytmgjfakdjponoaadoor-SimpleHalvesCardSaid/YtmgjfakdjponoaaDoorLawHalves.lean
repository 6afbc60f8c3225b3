/-
  Proved: for every graph the law SimpleHalves answers true, and the graph reads afterwards as before.
-/
import Derived.Test.YtmgjfakdjponoaaDoorSiOpen
import Derived.Test.YtmgjfakdjponoaaDoorSiWakes
import Derived.Test.YtmgjfakdjponoaaDoorSiSame
import Derived.Test.YtmgjfakdjponoaaDoorSiDeg
namespace Go.Proofs.YtmgjfakdjponoaaDoor
open Go.ChangeShapes Go.WideShapes Go.ChangeAt Go.RowKit

namespace lawHalves

theorem ends_no {n : Int} {es : List (Int × Int)} {h : Int} (hh : Si.valid n es = false ∨ h < 0 ∨ 2 * (es.length : Int) ≤ h) : Si.ends n es h = (0, 0, false) := by
  unfold Si.ends
  rw [if_neg]
  rintro ⟨h1, h2, h3⟩
  rcases hh with h' | h' | h'
  · rw [h'] at h1; cases h1
  · omega
  · omega

theorem ends_even {n : Int} {es : List (Int × Int)} {k : Nat} {p : Int × Int} (hv : Si.valid n es = true) (hp : es[k]? = some p) : Si.ends n es (2 * (k : Int)) = (p.1, p.2, true) := by
  have hk : k < es.length := (List.getElem?_eq_some_iff.1 hp).1
  unfold Si.ends
  rw [if_pos ⟨hv, by omega, by omega⟩, if_neg (by omega)]
  have e : (2 * (k : Int) / 2).toNat = k := by omega
  rw [e, List.getD_eq_getElem?_getD, hp]
  rfl

theorem ends_odd {n : Int} {es : List (Int × Int)} {k : Nat} {p : Int × Int} (hv : Si.valid n es = true) (hp : es[k]? = some p) : Si.ends n es (2 * (k : Int) + 1) = (p.2, p.1, true) := by
  have hk : k < es.length := (List.getElem?_eq_some_iff.1 hp).1
  unfold Si.ends
  rw [if_pos ⟨hv, by omega, by omega⟩, if_pos (by omega)]
  have e : ((2 * (k : Int) + 1) / 2).toNat = k := by omega
  rw [e, List.getD_eq_getElem?_getD, hp]
  rfl

set_option maxRecDepth 100000 in
set_option maxHeartbeats 16000000 in
theorem walk (n : Int) (ao : Option Addr) (ca : Nat) (es : List (Int × Int)) (w : World) (_ : -9223372036854775808 ≤ n ∧ n ≤ 9223372036854775807) (hq : PairsIn w ao es.length ca es) (hle : es.length * 16 ≤ 140737488351232) (ht : Tab w) :
    Calls Tryd.prog 5 #[.agg #[.int .i64 n, .slice ao es.length ca]] w fun e w' => e = .returned (.bool true) ∧ Below w.heap.size w w' := by
  have HQ := Nu.hid hq
  have HTAB := Nu.hid ht
  clear hq ht
  have hbw0 : Below w.heap.size w (w.alloc (.cells #[.int .i64 n, .slice ao es.length ca] 26)) := (Below.refl _ _).alloc (Nat.le_refl _) _
  have HB0 := Nu.hid hbw0
  clear hbw0
  have HG0 := Nu.hid (heap_alloc_new w (.cells #[.int .i64 n, .slice ao es.length ca] 26))
  have hs0 := lt_of_block HG0.out
  have hpe : ∀ (h : Int) (r : Int × Int × Bool) (a : Option Addr) (c : Nat) (W : World), EdgesAt W a es → Si.ends n es h = r → Calls Tryd.prog 14 #[.agg #[.int .i64 n, .slice a es.length c], .int .i64 h] W fun e w' => e = .returned (.tuple #[.int .i64 r.1, .int .i64 r.2.1, .bool r.2.2]) ∧ Below W.heap.size W w' := fun h r a c W hE hr => by
    subst hr
    exact ends_any n a c es h W hE (by omega)
  have hpv : ∀ (a : Option Addr) (c : Nat) (W : World), EdgesAt W a es → Calls Tryd.prog 20 #[.agg #[.int .i64 n, .slice a es.length c]] W fun e w' => e = .returned (.bool (Si.valid n es)) ∧ Below W.heap.size W w' := fun a c W hE => valid_any n a c es W hE (by omega)
  have HPE := Nu.hid hpe
  clear hpe
  cases hv : Si.valid n es with
  | false =>
    rw [hv] at hpv
    have HPV := Nu.hid hpv
    have HV := Nu.hid hv
    have HE0 := Nu.hid (ends_no (n := n) (es := es) (h := 0) (.inl hv))
    have hsm : Si.same n n es es = false := by unfold Si.same; rw [hv]; rfl
    have HSM := Nu.hid hsm
    clear hpv hv hsm
    go_enter Tryd.func5, Tryd.ntmps5
    go_wp2_with (go_at_call 9; refine (wakes_any _ (HTAB.out.below HB0.out)).mono ?_; rintro e w1 ⟨rfl, hb⟩; refine Hid.out ?_)
    refine Nu.hid ?_
    have hG1 := (hb.block _ hs0).trans HG0.out
    obtain ⟨x0, x1, -⟩ := pair_cells hG1
    have hs1 := lt_of_block hG1
    have HB1 := Nu.hid (HB0.out.trans (hb.mono HB0.out.size))
    have HG1 := Nu.hid hG1
    clear hb hG1
    go_wp2_with (go_at_call 15; refine (rcopy_any n ao ca es _ (HQ.out.hat.later HB1.out) (by omega)).mono ?_; rintro e w2 ⟨v, rfl, hown, hb⟩; obtain ⟨a, c, rfl, _, _, hea, _⟩ := hown.form; refine Hid.out ?_)
    refine Nu.hid ?_
    have hG2 := (hb.block _ hs1).trans HG1.out
    obtain ⟨x0, x1, -⟩ := pair_cells hG2
    have hs2 := lt_of_block hG2
    have HB2 := Nu.hid (HB1.out.trans (hb.mono HB1.out.size))
    have HG2 := Nu.hid hG2
    clear hb hG2 hown
    have HEA2 := Nu.hid hea
    clear hea x0 x1
    obtain ⟨x0, x1, -⟩ := pair_cells HG2.out
    clear x0 x1
    obtain ⟨x0, x1, -⟩ := pair_cells HG2.out
    go_wp2_with (go_at_call 20; refine (HPV.out _ _ _ HEA2.out).mono ?_; rintro e w3 ⟨rfl, hb⟩; refine Hid.out ?_)
    clear x0 x1
    refine Nu.hid ?_
    have hG3 := (hb.block _ hs2).trans HG2.out
    obtain ⟨x0, x1, -⟩ := pair_cells hG3
    have hs3 := lt_of_block hG3
    have HB3 := Nu.hid (HB2.out.trans (hb.mono HB2.out.size))
    have HG3 := Nu.hid hG3
    clear hb hG3
    go_wp2_with (go_at_call 15; refine (rcopy_any n ao ca es _ (HQ.out.hat.later HB3.out) (by omega)).mono ?_; rintro e w4 ⟨v, rfl, hown, hb⟩; obtain ⟨a, c, rfl, _, _, hea, _⟩ := hown.form; refine Hid.out ?_)
    refine Nu.hid ?_
    have hG4 := (hb.block _ hs3).trans HG3.out
    obtain ⟨x0, x1, -⟩ := pair_cells hG4
    have hs4 := lt_of_block hG4
    have HB4 := Nu.hid (HB3.out.trans (hb.mono HB3.out.size))
    have HG4 := Nu.hid hG4
    clear hb hG4 hown
    have HEA4 := Nu.hid hea
    clear hea x0 x1
    obtain ⟨x0, x1, -⟩ := pair_cells HG4.out
    go_wp2_with (go_at_call 14; refine (HPE.out 0 (0, 0, false) _ _ _ HEA4.out HE0.out).mono ?_; rintro e w5 ⟨rfl, hb⟩; refine Hid.out ?_)
    clear x0 x1
    refine Nu.hid ?_
    have hG5 := (hb.block _ hs4).trans HG4.out
    obtain ⟨x0, x1, -⟩ := pair_cells hG5
    have hs5 := lt_of_block hG5
    have HB5 := Nu.hid (HB4.out.trans (hb.mono HB4.out.size))
    have HG5 := Nu.hid hG5
    clear hb hG5
    go_wp2_with (go_at_call 15; refine (rcopy_any n ao ca es _ (HQ.out.hat.later HB5.out) (by omega)).mono ?_; rintro e w6 ⟨v, rfl, hown, hb⟩; obtain ⟨a, c, rfl, _, _, hea, _⟩ := hown.form; refine Hid.out ?_)
    refine Nu.hid ?_
    have hG6 := (hb.block _ hs5).trans HG5.out
    obtain ⟨x0, x1, -⟩ := pair_cells hG6
    have hs6 := lt_of_block hG6
    have HB6 := Nu.hid (HB5.out.trans (hb.mono HB5.out.size))
    have HG6 := Nu.hid hG6
    clear hb hG6 hown
    have HEA6 := Nu.hid hea
    clear hea x0 x1
    obtain ⟨x0, x1, -⟩ := pair_cells HG6.out
    have hdp := degrees_any n a c es w6 HEA6.out (by omega)
    unfold graphVal at hdp
    have HDP := Nu.hid hdp
    clear hdp
    go_wp2_with (go_at_call 17; refine (HDP.out).mono ?_; rintro e w7 ⟨hor, hb⟩; rcases hor with ⟨hv, _⟩ | ⟨_, rfl⟩; (rw [HV.out] at hv; cases hv); refine Hid.out ?_)
    clear x0 x1
    refine Nu.hid ?_
    have hG7 := (hb.block _ hs6).trans HG6.out
    obtain ⟨x0, x1, -⟩ := pair_cells hG7
    have hs7 := lt_of_block hG7
    have HB7 := Nu.hid (HB6.out.trans (hb.mono HB6.out.size))
    have HG7 := Nu.hid hG7
    clear hb hG7
    have hbr : Below w7.heap.size w7 w7.drew := (Below.refl _ _).drew
    have hS : ∀ W, Below w7.heap.size w7 W → (W.cell? ⟨w.heap.size, 0, none⟩ = some (.int .i64 n) ∧ W.cell? ⟨w.heap.size, 1, none⟩ = some (.slice ao es.length ca) ∧ Below w7.heap.size w7 W) := fun W h =>
      ⟨(h.cell (p := ⟨w.heap.size, 0, none⟩) hs7).trans x0, (h.cell (p := ⟨w.heap.size, 1, none⟩) hs7).trans x1, h⟩
    have HS := Nu.hid hS
    have hcg : ∀ (W : World), Below w7.heap.size w7 W → Calls Tryd.prog 15 #[.agg #[.int .i64 n, .slice ao es.length ca]] W fun e W2 => ∃ a c, e = .returned (.agg #[.int .i64 n, .slice a es.length c]) ∧ EdgesAt W2 a es ∧ Below W.heap.size W W2 ∧ Below w7.heap.size w7 W2 := fun W h => by
      refine (rcopy_any n ao ca es W (HQ.out.hat.later (HB7.out.trans (h.mono HB7.out.size))) (by omega)).mono ?_
      rintro e W2 ⟨v, rfl, hown, hb⟩
      obtain ⟨a, c, rfl, _, _, hea, _⟩ := hown.form
      exact ⟨a, c, rfl, hea, hb, h.trans (hb.mono h.size)⟩
    have HCG := Nu.hid hcg
    have hsa : ∀ (a b : Option Addr) (c d : Nat) (W : World), EdgesAt W a es → EdgesAt W b es → Calls Tryd.prog 24 #[.agg #[.int .i64 n, .slice a es.length c], .agg #[.int .i64 n, .slice b es.length d]] W fun e w' => e = .returned (.bool false) ∧ Below W.heap.size W w' := fun a b c d W h h' => by
      have := same_any n n a b c d es es W h h' (by omega) (by omega)
      rw [HSM.out] at this
      exact this
    have HSA := Nu.hid hsa
    clear hcg hS hsa
    go_wp2_with fail
    go_region_held3 (fun W => W.cell? ⟨w.heap.size, 0, none⟩ = some (.int .i64 n) ∧ W.cell? ⟨w.heap.size, 1, none⟩ = some (.slice ao es.length ca) ∧ Below w7.heap.size w7 W)
      (exact HS.out _ (by first | assumption | exact hbr))
      ((first
        | (go_at_call 15; refine (HCG.out _ (by first | assumption | exact hbr)).mono ?_; rintro e W2 ⟨aa, cc, rfl, hea, hbs, hbz⟩)
        | (go_at_call 24; refine (HSA.out _ _ _ _ _ (by first | assumption | exact EdgesAt.later (by assumption) (by assumption)) (by first | assumption | exact EdgesAt.later (by assumption) (by assumption))).mono ?_; rintro e W2 ⟨rfl, hbs⟩; have hbz : Below w7.heap.size w7 W2 := Below.trans (by assumption) (hbs.mono (Below.size (by assumption))))))
    all_goals
      go_wp2
      go_ret
      exact ⟨by simp, HB7.out.trans (hbz.mono HB7.out.size)⟩
  | true =>
    rw [hv] at hpv
    have HPV := Nu.hid hpv
    have HV := Nu.hid hv
    have hval := Si.valid_iff.1 hv
    have hfew := hval.few
    have HVAL := Nu.hid hval
    clear hpv hv hval
    go_enter Tryd.func5, Tryd.ntmps5
    go_wp2_with (go_at_call 9; refine (wakes_any _ (HTAB.out.below HB0.out)).mono ?_; rintro e w8 ⟨rfl, hb⟩; refine Hid.out ?_)
    refine Nu.hid ?_
    have hG8 := (hb.block _ hs0).trans HG0.out
    obtain ⟨x0, x1, -⟩ := pair_cells hG8
    have hs8 := lt_of_block hG8
    have HB8 := Nu.hid (HB0.out.trans (hb.mono HB0.out.size))
    have HG8 := Nu.hid hG8
    clear hb hG8
    go_wp2_with (go_at_call 15; refine (rcopy_any n ao ca es _ (HQ.out.hat.later HB8.out) (by omega)).mono ?_; rintro e w9 ⟨v, rfl, hown, hb⟩; obtain ⟨a, c, rfl, _, _, hea, _⟩ := hown.form; refine Hid.out ?_)
    refine Nu.hid ?_
    have hG9 := (hb.block _ hs8).trans HG8.out
    obtain ⟨x0, x1, -⟩ := pair_cells hG9
    have hs9 := lt_of_block hG9
    have HB9 := Nu.hid (HB8.out.trans (hb.mono HB8.out.size))
    have HG9 := Nu.hid hG9
    clear hb hG9 hown
    have HEA9 := Nu.hid hea
    clear hea x0 x1
    obtain ⟨x0, x1, -⟩ := pair_cells HG9.out
    go_wp2_with (go_at_call 20; refine (HPV.out _ _ _ HEA9.out).mono ?_; rintro e w10 ⟨rfl, hb⟩; refine Hid.out ?_)
    clear x0 x1
    refine Nu.hid ?_
    have hG10 := (hb.block _ hs9).trans HG9.out
    obtain ⟨x0, x1, -⟩ := pair_cells hG10
    have hs10 := lt_of_block hG10
    have HB10 := Nu.hid (HB9.out.trans (hb.mono HB9.out.size))
    have HG10 := Nu.hid hG10
    clear hb hG10
    clear x0 x1
    go_wp2
    go_loopw [8] (fun c wr => ∃ k : Nat, k ≤ es.length ∧ c = .int .i64 k ∧ wr.heap[w.heap.size]? = some (.cells #[.int .i64 n, .slice ao es.length ca] 26 (0, 0)) ∧ Below w.heap.size w wr) (fun c _ => es.length - (intOf c).toNat)
    case atStart => exact ⟨0, Nat.zero_le _, rfl, HG10.out, HB10.out⟩
    case round =>
      obtain ⟨k, hk, rfl, hgr, hbr0⟩ := hrel
      obtain ⟨x0, x1, -⟩ := pair_cells hgr
      have hsR := lt_of_block hgr
      have HGR := Nu.hid hgr
      have HBR := Nu.hid hbr0
      clear hgr hbr0
      by_cases hlt : k < es.length
      · have hlti : (k : Int) < (es.length : Int) := by omega
        have hk0 : (0 : Int) ≤ (k : Int) := by omega
        have hkb : (k : Int) ≤ 4194304 := by omega
        obtain ⟨p, hp⟩ : ∃ p, es[k]? = some p := ⟨_, List.getElem?_eq_getElem hlt⟩
        have HE1 := Nu.hid (ends_even HV.out hp)
        have HE2 := Nu.hid (ends_odd HV.out hp)
        have hok := HVAL.out.each k p hp
        unfold Si.ok at hok
        have hfd : ∀ r : Int, Si.IsFind n es p r → r = (k : Int) := fun r h => h.same (.inl ⟨k, HVAL.out, hp, rfl⟩)
        have hfn : ∀ r : Int, Si.IsFind n es (p.2, p.1) r → r = -1 := fun r h => h.same (.inr ⟨rfl, fun hh => by
          obtain ⟨j, hj⟩ := hh.2
          have := HVAL.out.each j _ hj
          unfold Si.ok at this
          dsimp only at this
          omega⟩)
        have HFD := Nu.hid hfd
        have HFN := Nu.hid hfn
        obtain ⟨u, v⟩ := p
        dsimp only at HE1 HE2 hok
        have huv : u < v := hok.2.1
        clear hp hok hfd hfn
        have HB11 := HBR
        have HG11 := HGR
        have hs11 := hsR
        go_wp2_with (go_at_call 15; refine (rcopy_any n ao ca es _ (HQ.out.hat.later HB11.out) (by omega)).mono ?_; rintro e w12 ⟨v, rfl, hown, hb⟩; obtain ⟨a, c, rfl, _, _, hea, _⟩ := hown.form; refine Hid.out ?_)
        refine Nu.hid ?_
        have hG12 := (hb.block _ hs11).trans HG11.out
        obtain ⟨x0, x1, -⟩ := pair_cells hG12
        have hs12 := lt_of_block hG12
        have HB12 := Nu.hid (HB11.out.trans (hb.mono HB11.out.size))
        have HG12 := Nu.hid hG12
        clear hb hG12 hown
        have HEA12 := Nu.hid hea
        clear hea x0 x1
        obtain ⟨x0, x1, -⟩ := pair_cells HG12.out
        go_wp2_with (go_at_call 14; refine (HPE.out (2 * (k : Int)) (u, v, true) _ _ _ HEA12.out HE1.out).mono ?_; rintro e w13 ⟨rfl, hb⟩; refine Hid.out ?_)
        clear x0 x1
        refine Nu.hid ?_
        have hG13 := (hb.block _ hs12).trans HG12.out
        obtain ⟨x0, x1, -⟩ := pair_cells hG13
        have hs13 := lt_of_block hG13
        have HB13 := Nu.hid (HB12.out.trans (hb.mono HB12.out.size))
        have HG13 := Nu.hid hG13
        clear hb hG13
        go_wp2_with (go_at_call 15; refine (rcopy_any n ao ca es _ (HQ.out.hat.later HB13.out) (by omega)).mono ?_; rintro e w14 ⟨v, rfl, hown, hb⟩; obtain ⟨a, c, rfl, _, _, hea, _⟩ := hown.form; refine Hid.out ?_)
        refine Nu.hid ?_
        have hG14 := (hb.block _ hs13).trans HG13.out
        obtain ⟨x0, x1, -⟩ := pair_cells hG14
        have hs14 := lt_of_block hG14
        have HB14 := Nu.hid (HB13.out.trans (hb.mono HB13.out.size))
        have HG14 := Nu.hid hG14
        clear hb hG14 hown
        have HEA14 := Nu.hid hea
        clear hea x0 x1
        obtain ⟨x0, x1, -⟩ := pair_cells HG14.out
        go_wp2_with (go_at_call 14; refine (HPE.out (2 * (k : Int) + 1) (v, u, true) _ _ _ HEA14.out HE2.out).mono ?_; rintro e w15 ⟨rfl, hb⟩; refine Hid.out ?_)
        clear x0 x1
        refine Nu.hid ?_
        have hG15 := (hb.block _ hs14).trans HG14.out
        obtain ⟨x0, x1, -⟩ := pair_cells hG15
        have hs15 := lt_of_block hG15
        have HB15 := Nu.hid (HB14.out.trans (hb.mono HB14.out.size))
        have HG15 := Nu.hid hG15
        clear hb hG15
        have j1 : (u != u) = false := by simp
        have j2 : (v != v) = false := by simp
        go_wp2_with (go_at_call 15; refine (rcopy_any n ao ca es _ (HQ.out.hat.later HB15.out) (by omega)).mono ?_; rintro e w16 ⟨v, rfl, hown, hb⟩; obtain ⟨a, c, rfl, _, _, hea, _⟩ := hown.form; refine Hid.out ?_)
        refine Nu.hid ?_
        have hG16 := (hb.block _ hs15).trans HG15.out
        obtain ⟨x0, x1, -⟩ := pair_cells hG16
        have hs16 := lt_of_block hG16
        have HB16 := Nu.hid (HB15.out.trans (hb.mono HB15.out.size))
        have HG16 := Nu.hid hG16
        clear hb hG16 hown
        have HEA16 := Nu.hid hea
        clear hea x0 x1
        obtain ⟨x0, x1, -⟩ := pair_cells HG16.out
        have hfi := find_any n a c es (u, v) w16 HEA16.out (by omega)
        unfold graphVal edgeVal at hfi
        dsimp only at hfi
        have HFI := Nu.hid hfi
        clear hfi
        go_wp2_with (go_at_call 22; refine (HFI.out).mono ?_; rintro e w17 ⟨⟨r1, hr1, rfl⟩, hb⟩; obtain rfl := HFD.out _ hr1; refine Hid.out ?_)
        clear x0 x1
        refine Nu.hid ?_
        have hG17 := (hb.block _ hs16).trans HG16.out
        obtain ⟨x0, x1, -⟩ := pair_cells hG17
        have hs17 := lt_of_block hG17
        have HB17 := Nu.hid (HB16.out.trans (hb.mono HB16.out.size))
        have HG17 := Nu.hid hG17
        clear hb hG17
        have j3 : ((k : Int) != (k : Int)) = false := by simp
        go_wp2_with (go_at_call 15; refine (rcopy_any n ao ca es _ (HQ.out.hat.later HB17.out) (by omega)).mono ?_; rintro e w18 ⟨v, rfl, hown, hb⟩; obtain ⟨a, c, rfl, _, _, hea, _⟩ := hown.form; refine Hid.out ?_)
        refine Nu.hid ?_
        have hG18 := (hb.block _ hs17).trans HG17.out
        obtain ⟨x0, x1, -⟩ := pair_cells hG18
        have hs18 := lt_of_block hG18
        have HB18 := Nu.hid (HB17.out.trans (hb.mono HB17.out.size))
        have HG18 := Nu.hid hG18
        clear hb hG18 hown
        have HEA18 := Nu.hid hea
        clear hea x0 x1
        obtain ⟨x0, x1, -⟩ := pair_cells HG18.out
        have hfi := find_any n a c es (v, u) w18 HEA18.out (by omega)
        unfold graphVal edgeVal at hfi
        dsimp only at hfi
        have HFJ := Nu.hid hfi
        clear hfi
        go_wp2_with (go_at_call 22; refine (HFJ.out).mono ?_; rintro e w19 ⟨⟨r2, hr2, rfl⟩, hb⟩; obtain rfl := HFN.out _ hr2; refine Hid.out ?_)
        clear x0 x1
        refine Nu.hid ?_
        have hG19 := (hb.block _ hs18).trans HG18.out
        obtain ⟨x0, x1, -⟩ := pair_cells hG19
        have hs19 := lt_of_block hG19
        have HB19 := Nu.hid (HB18.out.trans (hb.mono HB18.out.size))
        have HG19 := Nu.hid hG19
        clear hb hG19
        go_wp2
        go_roundw
        case rel => exact ⟨k + 1, by omega, by go_num, HG19.out, HB19.out⟩
        case measure => simp [intOf]; omega
      · have hd : ¬ ((k : Int) < (es.length : Int)) := by omega
        have HE3 := Nu.hid (ends_no (n := n) (es := es) (h := -1) (.inr (.inl (by omega))))
        have HE4 := Nu.hid (ends_no (n := n) (es := es) (h := 2 * (es.length : Int)) (.inr (.inr (by omega))))
        have hlb : (es.length : Int) ≤ 4194304 := by omega
        have hl0 : (0 : Int) ≤ (es.length : Int) := by omega
        have HB20 := HBR
        have HG20 := HGR
        have hs20 := hsR
        go_wp2_with (go_at_call 15; refine (rcopy_any n ao ca es _ (HQ.out.hat.later HB20.out) (by omega)).mono ?_; rintro e w21 ⟨v, rfl, hown, hb⟩; obtain ⟨a, c, rfl, _, _, hea, _⟩ := hown.form; refine Hid.out ?_)
        refine Nu.hid ?_
        have hG21 := (hb.block _ hs20).trans HG20.out
        obtain ⟨x0, x1, -⟩ := pair_cells hG21
        have hs21 := lt_of_block hG21
        have HB21 := Nu.hid (HB20.out.trans (hb.mono HB20.out.size))
        have HG21 := Nu.hid hG21
        clear hb hG21 hown
        have HEA21 := Nu.hid hea
        clear hea x0 x1
        obtain ⟨x0, x1, -⟩ := pair_cells HG21.out
        go_wp2_with (go_at_call 14; refine (HPE.out (-1) (0, 0, false) _ _ _ HEA21.out HE3.out).mono ?_; rintro e w22 ⟨rfl, hb⟩; refine Hid.out ?_)
        clear x0 x1
        refine Nu.hid ?_
        have hG22 := (hb.block _ hs21).trans HG21.out
        obtain ⟨x0, x1, -⟩ := pair_cells hG22
        have hs22 := lt_of_block hG22
        have HB22 := Nu.hid (HB21.out.trans (hb.mono HB21.out.size))
        have HG22 := Nu.hid hG22
        clear hb hG22
        have hbr : Below w22.heap.size w22 w22.drew := (Below.refl _ _).drew
        have hS : ∀ W, Below w22.heap.size w22 W → (W.cell? ⟨w.heap.size, 0, none⟩ = some (.int .i64 n) ∧ W.cell? ⟨w.heap.size, 1, none⟩ = some (.slice ao es.length ca) ∧ Below w22.heap.size w22 W) := fun W h =>
          ⟨(h.cell (p := ⟨w.heap.size, 0, none⟩) hs22).trans x0, (h.cell (p := ⟨w.heap.size, 1, none⟩) hs22).trans x1, h⟩
        have HS := Nu.hid hS
        have hcg : ∀ (W : World), Below w22.heap.size w22 W → Calls Tryd.prog 15 #[.agg #[.int .i64 n, .slice ao es.length ca]] W fun e W2 => ∃ a c, e = .returned (.agg #[.int .i64 n, .slice a es.length c]) ∧ EdgesAt W2 a es ∧ Below W.heap.size W W2 ∧ Below w22.heap.size w22 W2 := fun W h => by
          refine (rcopy_any n ao ca es W (HQ.out.hat.later (HB22.out.trans (h.mono HB22.out.size))) (by omega)).mono ?_
          rintro e W2 ⟨v, rfl, hown, hb⟩
          obtain ⟨a, c, rfl, _, _, hea, _⟩ := hown.form
          exact ⟨a, c, rfl, hea, hb, h.trans (hb.mono h.size)⟩
        have HCG := Nu.hid hcg
        have hw2 : IntKind.i64.wrap (2 * (es.length : Int)) = 2 * (es.length : Int) := by simp [IntKind.wrap, IntKind.bits, IntKind.signed]; omega
        clear hcg hS
        go_wp2_with fail
        go_region_held3 (fun W => W.cell? ⟨w.heap.size, 0, none⟩ = some (.int .i64 n) ∧ W.cell? ⟨w.heap.size, 1, none⟩ = some (.slice ao es.length ca) ∧ Below w22.heap.size w22 W)
          (exact HS.out _ (by first | assumption | exact hbr))
          ((first
            | (go_at_call 15; refine (HCG.out _ (by first | assumption | exact hbr)).mono ?_; rintro e W2 ⟨aa, cc, rfl, hea, hbs, hbz⟩)
            | (go_at_call 14; refine (HPE.out (2 * (es.length : Int)) (0, 0, false) _ _ _ (by first | assumption | exact EdgesAt.later (by assumption) (by assumption)) HE4.out).mono ?_; rintro e W2 ⟨rfl, hbs⟩; have hbz : Below w22.heap.size w22 W2 := Below.trans (by assumption) (hbs.mono (Below.size (by assumption))))))
        all_goals
          go_wp2
          go_ret
          exact ⟨by simp, HB22.out.trans (hbz.mono HB22.out.size)⟩

set_option maxRecDepth 100000 in
/-- What the walk gives, for every argument and every world that holds the tables. -/
theorem contract (H : Type) (enc : TypeId × Value → H) (W : World) (base : Nat) (args : Array Value) (ds gs : List (DataW H)) (before : List MemPlace)
    (hval : ∀ (j : Nat) t v, Tryd.f5.params[j]? = some t → args[j]? = some v → Value.okWide Tryd.prog W .any base t v)
    (hW : DataW.Whole enc Tryd.prog Tryd.f5.params.toList Rows.simpleHalvesSpec.vars false W args.toList ds gs before)
    (hsz : (DataW.weightsEach Tryd.prog (Tryd.f5.params.toList ++ (OpenSpec.ofChange Rows.simpleHalvesSpec).bare.plain.varTypes Tryd.prog) (ds ++ gs)).all (· ≤ reachBytes) = true)
    (hL : laidMet Tryd.prog listed W) :
    Calls Tryd.prog 5 args W fun e W' => ∃ v, e = .returned v ∧ Rows.simpleHalvesSpec.post enc Tryd.prog Tryd.f5 false true false false W args v W' := by
  have hW' := hW
  obtain ⟨p, q, hA0, hV, rfl, hfz, hnd⟩ := hW
  have hA : DataW.TrodAll enc Tryd.prog W 0 (fun _ => true) true Tryd.f5.params.toList args.toList ds p := hA0
  rw [Tryd.params5] at hA hval hsz
  obtain ⟨v0, vs0, d0, ds0, p0, q0, hargs, rfl, rfl, h0, r0⟩ := trodAll_cons hA
  obtain ⟨rfl, rfl, rfl⟩ := trodAll_nil r0
  obtain rfl : args = #[v0] := by cases args; simp_all
  obtain ⟨rfl, rfl⟩ := trodVars_none hV
  have k0 := h0
  have lt0 : ∀ x ∈ p0, x.block < W.heap.size := by obtain ⟨m, hm⟩ := k0; exact DataW.trod_lt m _ _ _ hm
  obtain ⟨n0, a0, cap0, q0, rfl, x0, w0, u0⟩ := graph_of_trod (j := 0) (hval 0 26 v0 rfl rfl) h0 hsz rfl rfl
  clear hA0
  refine (walk n0 a0 cap0 q0 W x0 w0 u0 (table hL)).mono fun e W' ⟨he, bel⟩ => ?_
  subst he
  exact ⟨_, rfl, _, _, _, [], _, [], hW', trodAll_mk1 (shut_bool Tryd.underlying4 _), (trodAll_cons_mk (Below.trod laidOut (by kernel_rfl) (of_decide_eq_true (by kernel_rfl)) k0 bel lt0) trodAll_mk0), rfl, bel.frame _, fun h => by cases h⟩

theorem laid_met (os : Os) : laidMet Tryd.prog Rows.simpleHalvesRow.laid ((laidWorld os).forCall (fun _ _ => 0) ⟨#[], #[.agg #[.int .i64 0, .slice none 0 0]], []⟩).memory :=
  laidMet_of_run' 100 (by kernel_rfl) (by kernel_rfl)
theorem reads (os : Os) {H : Type} (enc : TypeId × Value → H) : ∃ places, DataW.whole enc Tryd.prog ((laidWorld os).forCall (fun _ _ => 0) ⟨#[], #[.agg #[.int .i64 0, .slice none 0 0]], []⟩).memory Tryd.f5.params.toList Rows.simpleHalvesSpec.vars false (#[.agg #[.int .i64 0, .slice none 0 0]] : Array Value).toList 8 = some ([.agg [.lit (.int .i64 0), .nil]], [], places) :=
  ⟨[], by kernel_rfl⟩

set_option maxRecDepth 100000 in
theorem lifted (os : Os) (started : os.Started) (H : Type) (enc : TypeId × Value → H) (F : Stop.Interp) :
    ReturnsInHanded {} Tryd.checked os 5 .any ((OpenSpec.ofChange Rows.simpleHalvesSpec).preRow enc Tryd.prog Tryd.f5 Rows.simpleHalvesRow.domain false Rows.simpleHalvesRow.laid) (((OpenSpec.ofChange Rows.simpleHalvesSpec).at F).post enc Tryd.prog Tryd.f5 false true false false) := by
  obtain ⟨places, hx⟩ := reads os enc
  refine returnsInHanded_of_row (C := Tryd.checked) (s := (OpenSpec.ofChange Rows.simpleHalvesSpec)) own started (by kernel_rfl) Tryd.func5
    (witness_row_at (enc := enc) (C := Tryd.checked) false (laidWorld os) #[.agg #[.int .i64 0, .slice none 0 0]] rfl (by kernel_rfl) (by kernel_rfl) (by kernel_rfl)
      (OpenSpec.preRow_of_cond 8 hx (by kernel_rfl) (fun k hk => by cases hk) (by kernel_rfl) (laid_met os))) ?_
  intro W base args ds gs before hval hW _ hcond hsz hL _ _
  exact contract H enc W base args ds gs before hval hW hsz hL

theorem said : Rows.SimpleHalvesSaid :=
  OpenClaim.holds_of_cond 5 Tryd.f5 rfl rfl rfl rfl rfl rfl rfl ⟨rfl, rfl, rfl, rfl, rfl⟩ rfl rfl rfl rfl rfl (by kernel_rfl) Tryd.func5 (by kernel_rfl)
    (of_decide_eq_true (by kernel_rfl)) (by unfold Func.isWrapper; first | (rw [if_pos (by decide +kernel)]; kernel_rfl) | (rw [if_neg (by decide +kernel)]; exact ⟨rfl, rfl⟩))
    (fun os started H enc _ F => by rw [OpenClaim.pre_eq_preRow]; exact lifted os started H enc F)

theorem plain (f : FuncId) (fn : Func) (hf : Tryd.pinned.checked.prog.funcNamed "tangram/tangramlaw03.SimpleHalves" = some f) (hfn : Tryd.pinned.checked.prog.funcs[f]? = some fn) :
    true = Tryd.pinned.checked.prog.looks [] ∧ ∀ (j : Nat) t, fn.params[j]? = some t → Tryd.pinned.checked.prog.wantsStandIn t = false := by
  obtain rfl : f = 5 := Option.some.inj ((show Tryd.prog.funcNamed "tangram/tangramlaw03.SimpleHalves" = some 5 by kernel_rfl).symm.trans hf) |>.symm
  obtain rfl : fn = Tryd.f5 := (Option.some.inj (Tryd.func5.symm.trans hfn)).symm
  refine ⟨by kernel_rfl, fun j t ht => ?_⟩
  rw [Tryd.params5] at ht
  obtain rfl : t = 26 := by simpa using Array.mem_of_getElem? ht
  exact (show Tryd.prog.wantsStandIn 26 = false by kernel_rfl)

theorem card : Rows.SimpleHalvesCardSaid :=
  Claim7.holds_tied_plain_at .later [] _ _ _ _ said (fun _ h => by cases h) (by kernel_rfl) (fun _ h => by cases h) simpleHalves_row_tie rfl ⟨rfl, rfl⟩ (by kernel_rfl) rfl plain (by kernel_rfl)

end lawHalves

theorem simpleHalves_holds : Rows.SimpleHalvesCardSaid := lawHalves.card

end Go.Proofs.YtmgjfakdjponoaaDoor
