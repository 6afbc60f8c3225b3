/-
  Faces, the document: Genus, Flat.
-/
import Derived.Test.YtfkmldopfhdbkaaFaU
namespace Go.Proofs.Ytfkmldopfhdbkaa
open Go.RowKit Go.Sort

set_option maxRecDepth 100000 in
set_option maxHeartbeats 8000000 in
theorem r12genus_any (n : Int) (ao : Option Addr) (ca : Nat) (es : List (Int × Int)) (xo : Option Addr) (xc : Nat) (ls : List (List Int)) (w : World) (he : EdgesAt w ao es) (hl : es.length ≤ 4611686018427387904) (hx : RwsAt w xo ls) :
    Calls Try.prog 19 #[graphVal n ao es.length ca, .slice xo ls.length xc] w (GenQ (Ro.check n es ls).2 (Fa.gz n.toNat es ls) w) := by
  have hb0 : Below w.heap.size w (w.alloc (.cells #[.int .i64 n, .slice ao es.length ca] 24)) := (Below.refl _ _).alloc (Nat.le_refl _) _
  have HN := Nu.hid (r12of_any n ao ca es xo xc ls _ (he.later hb0) hl (hx.later hb0))
  have HBX := Nu.hid (heap_alloc_new w (.cells #[.int .i64 n, .slice ao es.length ca] 24))
  have HB0 := Nu.hid hb0
  have HOF : Hid (∀ U, Below w.heap.size w U → Calls Try.prog 36 #[.agg #[.int .i64 n, .slice ao es.length ca]] U (OfPost n es U)) := fun U hU => rof_any n ao ca es U (he.later hU) hl
  have HIS : Hid (∀ U, Below w.heap.size w U → Calls Try.prog 37 #[.agg #[.int .i64 n, .slice ao es.length ca]] U (IsoPost n es U)) := fun U hU => risolated_any n ao ca es U (he.later hU) hl
  unfold graphVal at HN ⊢
  obtain ⟨C, hC⟩ : ∃ C, C = (Ro.check n es ls).2 := ⟨_, rfl⟩
  have HC := Nu.hid hC
  rw [← hC] at HN ⊢
  clear he hx hb0 hC
  go_enter Try.func19, Try.ntmps19
  go_wp2_with (go_at_call 13; refine HN.out.mono ?_; intro e w1 hp; obtain ⟨hb1, ⟨hc, rfl⟩ | ⟨hc, v, vs, rfl, hr0⟩⟩ := hp <;> refine Hid.out ?_)
  all_goals refine Nu.hid ?_
  · have HB := Nu.hid (HB0.out.trans (hb1.mono HB0.out.size))
    have hcb : (C != 0) = true := by simpa using hc
    have HC1 := Nu.hid hc
    clear hc hb1
    go_wp2
    go_ret2
    exact ⟨by rw [if_neg HC1.out]; rfl, HB.out⟩
  · have hc' := hc
    rw [HC.out] at hc'
    have hro := Ro.check_iff.1 hc'
    have hv := Si.valid_iff.1 hro.val
    obtain ⟨N, rfl⟩ : ∃ N : Nat, n = (N : Int) := ⟨n.toNat, by have := hv.lo; omega⟩
    have hfw := hv.few
    have hhi := hv.hi
    have HV := Nu.hid hv
    obtain ⟨-, g, hgz, hge, -⟩ := Fa.genus_eq hro
    have HB := Nu.hid (HB0.out.trans (hb1.mono HB0.out.size))
    subst hc
    have t0 : ((0 : Int) != 0) = false := rfl
    have hs1 := HB.out.size
    have HXB : Hid (∀ U, Below w1.heap.size w1 U → U.cell? ⟨w.heap.size, 0, none⟩ = some (.int .i64 (N : Int)) ∧ U.cell? ⟨w.heap.size, 1, none⟩ = some (.slice ao es.length ca)) := fun U hU => by
      have hbx1 := (hb1.block _ (lt_of_block HBX.out)).trans HBX.out
      obtain ⟨x0, x1, -⟩ := pair_cells ((hU.block _ (lt_of_block hbx1)).trans hbx1)
      exact ⟨x0, x1⟩
    obtain ⟨fo, fc, hfe⟩ := row_shape hr0
    obtain ⟨F, hF⟩ : ∃ F, F = (Fa.all es ls).length := ⟨_, rfl⟩
    rw [← hF] at hfe hge
    subst hfe
    obtain ⟨c, hcc⟩ : ∃ c, c = Co.cnt N (Fa.cp N es) := ⟨_, rfl⟩
    obtain ⟨i, hii⟩ : ∃ i, i = Fa.lonely N es := ⟨_, rfl⟩
    rw [← hcc, ← hii] at hge
    have hcl : c ≤ N := by rw [hcc]; exact Co.cnt_le _ _
    have hil : i ≤ N := by rw [hii]; exact Co.cntTo_le _ _
    have HRES : Hid (Fa.gz (N : Int).toNat es ls = ((2 * (c : Int) - (i : Int) - (N : Int) + (es.length : Int) - (F : Int)).tdiv 2)) := by
      have : (N : Int).toNat = N := by omega
      rw [this]
      unfold Fa.gz
      rw [← hcc, ← hii, ← hF]
      exact Nu.hid rfl
    have q1 : IntKind.i64.wrap ((2 : Int) * (c : Int)) = 2 * (c : Int) := by rw [IntKind.wrap_i64]; omega
    have q2 : IntKind.i64.wrap (2 * (c : Int) - (i : Int)) = 2 * (c : Int) - (i : Int) := by rw [IntKind.wrap_i64]; omega
    have q3 : IntKind.i64.wrap (2 * (c : Int) - (i : Int) - (N : Int)) = 2 * (c : Int) - (i : Int) - (N : Int) := by rw [IntKind.wrap_i64]; omega
    have q4 : IntKind.i64.wrap (2 * (c : Int) - (i : Int) - (N : Int) + (es.length : Int)) = 2 * (c : Int) - (i : Int) - (N : Int) + (es.length : Int) := by rw [IntKind.wrap_i64]; omega
    have q5 : IntKind.i64.wrap (2 * (c : Int) - (i : Int) - (N : Int) + (es.length : Int) - (F : Int)) = 2 * (c : Int) - (i : Int) - (N : Int) + (es.length : Int) - (F : Int) := by rw [IntKind.wrap_i64]; omega
    have q6 : IntKind.i64.wrap ((2 * (c : Int) - (i : Int) - (N : Int) + (es.length : Int) - (F : Int)).tdiv 2) = (2 * (c : Int) - (i : Int) - (N : Int) + (es.length : Int) - (F : Int)).tdiv 2 := by
      have e : 2 * (c : Int) - (i : Int) - (N : Int) + (es.length : Int) - (F : Int) = 2 * (g : Int) := by omega
      rw [e, Int.mul_tdiv_cancel_left _ (by decide), IntKind.wrap_i64]
      omega
    have HO1 := Nu.hid (HOF.out w1 HB.out)
    have HCC := Nu.hid hcc
    have HII := Nu.hid hii
    obtain ⟨gx0, gx1⟩ := HXB.out w1 (Below.refl _ _)
    clear hb1 hro hv hr0 hgz hge hF hcc hii hfw hc'
    go_wp2_with (go_at_call 36; refine HO1.out.mono ?_; intro e w2 hp; obtain ⟨⟨m1, ov, hmn, -, rfl, -⟩ | ⟨hcv, -⟩, hb2⟩ := hp <;> refine Hid.out ?_)
    all_goals (first | (exact absurd (Si.valid_iff.2 HV.out) (by rw [hcv]; simp)) | skip)
    refine Nu.hid ?_
    have hm1 : m1 = N := by omega
    subst hm1
    have ec : Co.cnt m1 (Co.ofG m1 es) = c := HCC.out.symm
    rw [ec]
    have hb12 : Below w1.heap.size w1 w2 := hb2
    have HB2 := Nu.hid (HB.out.trans (hb2.mono hs1))
    have HO2 := Nu.hid (HIS.out w2 HB2.out)
    have HB12 := Nu.hid hb12
    clear gx0 gx1
    obtain ⟨gx0, gx1⟩ := HXB.out w2 hb12
    clear hb2 hb12 ec hmn HO1
    go_wp2_with (go_at_call 37; refine HO2.out.mono ?_; intro e w3 hp; obtain ⟨⟨m2, hmn, -, rfl⟩ | ⟨hcv, -⟩, hb3⟩ := hp <;> refine Hid.out ?_)
    all_goals (first | (exact absurd (Si.valid_iff.2 HV.out) (by rw [hcv]; simp)) | skip)
    refine Nu.hid ?_
    have hm2 : m2 = m1 := by omega
    subst hm2
    have ei : Co.iso m2 es = i := HII.out.symm
    rw [ei]
    have HB3 := Nu.hid (HB2.out.trans (hb3.mono HB2.out.size))
    have hb13 := HB12.out.trans (hb3.mono HB12.out.size)
    clear gx0 gx1
    obtain ⟨gx0, gx1⟩ := HXB.out w3 hb13
    clear hb3 hb13 ei hmn HO2
    go_wp2
    go_ret2
    exact ⟨by rw [if_pos rfl, HRES.out]; rfl, HB3.out⟩

set_option maxRecDepth 100000 in
set_option maxHeartbeats 4000000 in
theorem r12flat_any (n : Int) (ao : Option Addr) (ca : Nat) (es : List (Int × Int)) (xo : Option Addr) (xc : Nat) (ls : List (List Int)) (w : World) (he : EdgesAt w ao es) (hl : es.length ≤ 4611686018427387904) (hx : RwsAt w xo ls) :
    Calls Try.prog 21 #[graphVal n ao es.length ca, .slice xo ls.length xc] w fun e w' => e = .returned (.bool (decide ((Ro.check n es ls).2 = 0 ∧ Fa.gz n.toNat es ls = 0))) ∧ Below w.heap.size w w' := by
  have hb0 : Below w.heap.size w (w.alloc (.cells #[.int .i64 n, .slice ao es.length ca] 24)) := (Below.refl _ _).alloc (Nat.le_refl _) _
  have HN := Nu.hid (r12genus_any n ao ca es xo xc ls _ (he.later hb0) hl (hx.later hb0))
  have HB0 := Nu.hid hb0
  unfold graphVal at HN ⊢
  obtain ⟨C, hC⟩ : ∃ C, C = (Ro.check n es ls).2 := ⟨_, rfl⟩
  obtain ⟨g, hg⟩ : ∃ g, g = Fa.gz n.toNat es ls := ⟨_, rfl⟩
  rw [← hC, ← hg]
  rw [← hC, ← hg] at HN
  obtain ⟨T, hT⟩ : ∃ T, T = decide (C = 0 ∧ g = 0) := ⟨_, rfl⟩
  rw [← hT]
  by_cases h0 : C = 0
  · subst h0
    have t0 : ((0 : Int) == 0) = true := rfl
    by_cases h1 : g = 0
    · have t1 : (g == 0) = true := by simpa using h1
      have hD : T = true := by rw [hT]; simp [h1]
      subst hD
      have HGN : Hid (∀ (W W' : World) (e : Ending), GenQ 0 g W e W' → e = .returned (.tuple #[.int .i64 g, .int .i64 0]) ∧ Below W.heap.size W W') := fun W W' e h => ⟨h.1, h.2⟩
      clear he hx hb0 hC hg h1 hT
      go_enter Try.func21, Try.ntmps21
      go_wp2_with (go_at_call 19; refine HN.out.mono ?_; intro e w1 hp; obtain ⟨rfl, hb1⟩ := HGN.out _ _ _ hp; refine Hid.out ?_)
      refine Nu.hid ?_
      have HB := Nu.hid (HB0.out.trans (hb1.mono HB0.out.size))
      clear hb1 hp
      go_wp2
      go_ret
      exact ⟨rfl, HB.out⟩
    · have t1 : (g == 0) = false := by simpa using h1
      have hD : T = false := by rw [hT]; simp [h1]
      subst hD
      have HGN : Hid (∀ (W W' : World) (e : Ending), GenQ 0 g W e W' → e = .returned (.tuple #[.int .i64 g, .int .i64 0]) ∧ Below W.heap.size W W') := fun W W' e h => ⟨h.1, h.2⟩
      clear he hx hb0 hC hg h1 hT
      go_enter Try.func21, Try.ntmps21
      go_wp2_with (go_at_call 19; refine HN.out.mono ?_; intro e w1 hp; obtain ⟨rfl, hb1⟩ := HGN.out _ _ _ hp; refine Hid.out ?_)
      refine Nu.hid ?_
      have HB := Nu.hid (HB0.out.trans (hb1.mono HB0.out.size))
      clear hb1 hp
      go_wp2
      go_ret
      exact ⟨rfl, HB.out⟩
  · have t0 : (C == 0) = false := by simpa using h0
    have hD : T = false := by rw [hT]; simp [h0]
    subst hD
    have HGN : Hid (∀ (W W' : World) (e : Ending), GenQ C g W e W' → e = .returned (.tuple #[.int .i64 0, .int .i64 C]) ∧ Below W.heap.size W W') := fun W W' e h => ⟨by rw [h.1, if_neg h0], h.2⟩
    clear he hx hb0 hC hg h0 hT
    go_enter Try.func21, Try.ntmps21
    go_wp2_with (go_at_call 19; refine HN.out.mono ?_; intro e w1 hp; obtain ⟨rfl, hb1⟩ := HGN.out _ _ _ hp; refine Hid.out ?_)
    refine Nu.hid ?_
    have HB := Nu.hid (HB0.out.trans (hb1.mono HB0.out.size))
    clear hb1 hp
    go_wp2
    go_ret
    exact ⟨rfl, HB.out⟩

end Go.Proofs.Ytfkmldopfhdbkaa
