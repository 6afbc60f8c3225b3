/-
  Proved: for every certificate and all bytes of bulk at most 1048576 the law CertBack answers true, and they read afterwards as before.
-/
import Derived.Test.YtfjgmbimapkabaaDoorCeLy
namespace Go.Proofs.YtfjgmbimapkabaaDoor
open Go.ChangeShapes Go.WideShapes Go.ChangeAt Go.RowKit

namespace lawCeB

/-- What the bytes say, told ahead. -/
theorem told {B : Nat → Int} {n : Nat} (hT : Ce.Txt B n) : ∃ rc rp rk, Ce.parse B n = (rc, rp, rk) ∧ Ce.Small rc ∧ ((rk = 0 ∧ rp = 0 ∧ 0 < n ∧ Ce.Pr rc (Ce.textB rc) 0 ∧ (Ce.textB rc).length = n ∧ Ce.At B 0 (Ce.textB rc)) ∨ (rc = Ce.zero ∧ (rk = 170 ∨ rk = 10) ∧ 0 ≤ rp ∧ rp ≤ (n : Int))) := by
  obtain ⟨rc, rp, rk, hp⟩ : ∃ c p k, Ce.parse B n = (c, p, k) := ⟨_, _, _, rfl⟩
  refine ⟨rc, rp, rk, hp, ?_, ?_⟩
  · have := Ce.parse_small hT
    rw [hp] at this
    exact this
  · rcases Ce.parse_fault hT with h | ⟨h, h1, h2, h3⟩
    · rw [hp] at h
      obtain rfl : rk = 0 := h
      obtain ⟨h1, h2, h3, h4, h5⟩ := Ce.parse_is hT hp
      have hn : 0 < n := by
        rw [← h3]
        unfold Ce.textB
        simp
      refine .inl ⟨rfl, h5, hn, ?_, h3, h2⟩
      obtain ⟨L, k, hpr⟩ := Ce.pr_is rc
      refine ⟨.inl rfl, fun _ => ⟨h1, rfl, by omega⟩, fun h => absurd rfl h, fun e he => ?_⟩
      rcases he.2 h1 with ⟨h6, -⟩ | ⟨-, h6⟩
      · omega
      · exact h6
    · rw [hp] at h h1 h2 h3
      refine .inr ⟨h, ?_, h1, h2⟩
      rcases h3 with ⟨h3, -⟩ | h3
      · exact .inl h3
      · exact .inr h3

set_option maxRecDepth 100000 in
set_option maxHeartbeats 8000000 in
theorem walk (pl : Bool) (ao : Option Addr) (ca : Nat) (ls : List (List Int)) (eo : Option Addr) (ce : Nat) (es : List (Int × Int)) (a1 : Option Addr) (len1 cap1 : Nat) (z1 : List Int) (w : World) (w0 : CertIn w pl ao ls eo ce es) (w1 : IsRow .u8 1 w a1 len1 cap1 z1) (_ : len1 ≤ 1048576) (ht : Tab w) :
    Calls Tryd.prog 6 #[.agg #[.bool pl, .slice ao ls.length ca, .slice eo es.length ce], .slice a1 len1 cap1] w fun e w' => e = .returned (.bool true) ∧ Below w.heap.size w w' := by
  obtain ⟨i0, hi, hz0, hz1, hz2⟩ := info_parts Tryd.infoU8
  have hlen : len1 ≤ 140737488351232 := by simpa using w1.small
  obtain ⟨rc, rp, rk, hR, hsm, hcase⟩ := told w1.text.txt
  obtain ⟨L, k, hpr⟩ := Ce.pr_is ⟨pl, ls, es⟩
  have HROW := Nu.hid w1
  have HTX := Nu.hid w1.text
  have HTK := Nu.hid w1.take
  have HR := Nu.hid hR
  have HSM := Nu.hid hsm
  have HCASE := Nu.hid hcase
  have HPR := Nu.hid hpr
  have HFP := Nu.hid w0.fitsP
  have HF := Nu.hid w0.fits
  have HC := Nu.hid w0
  have HTB := Nu.hid (tab_below ht)
  have hz := heap_alloc_new w (.cells #[.bool pl, .slice ao ls.length ca, .slice eo es.length ce] 27)
  have hbz : Below w.heap.size w (w.alloc (.cells #[.bool pl, .slice ao ls.length ca, .slice eo es.length ce] 27)) := (Below.refl _ _).alloc (Nat.le_refl _) _
  have HZ := Nu.hid hz
  have HB := Nu.hid hbz
  obtain ⟨n, hn⟩ : ∃ n, ls.length = n := ⟨_, rfl⟩
  obtain ⟨m, hm⟩ : ∃ m, es.length = m := ⟨_, rfl⟩
  have HCP : Hid (∀ W, Below w.heap.size w W → Calls Tryd.prog 13 #[.agg #[.bool pl, .slice ao n ca, .slice eo m ce]] W fun e w' => Below W.heap.size W w' ∧ ∃ v, e = .returned v ∧ CertAt w' W.heap.size v ⟨pl, ls, es⟩) := fun W hW => by rw [← hn, ← hm]; exact (HC.out.later hW).copy
  have HSN : Hid (∀ W, Below w.heap.size w W → Ce.Sees W (.agg #[.bool pl, .slice ao n ca, .slice eo m ce]) ⟨pl, ls, es⟩ ao eo ca ce) := fun W hW => by rw [← hn, ← hm]; exact (HC.out.later hW).sees
  have HN := Nu.hid hn
  have HM := Nu.hid hm
  rw [hn, hm] at HZ HB ⊢
  clear w0 w1 ht hpr hz hbz hn hm hR hsm hcase
  go_enter Tryd.func6, Tryd.ntmps6
  go_wp2_with (go_at_call 11; refine (fixed17_any (HTB.out _ HB.out)).mono ?_; rintro e w1 ⟨rfl, hb1⟩; have hz1 := (hb1.block _ (lt_of_block HZ.out)).trans HZ.out; have HB1 := Nu.hid (HB.out.trans (hb1.mono HB.out.size)); have c0 := (three_cells17 hz1).1; have c1 := (three_cells17 hz1).2.1; have c2 := (three_cells17 hz1).2.2.1; have HZ1 := Nu.hid hz1; clear hb1 hz1; refine Hid.out ?_)
  refine Nu.hid ?_
  clear HB HZ
  go_wp2_with (go_at_call 13; refine (HCP.out _ HB1.out).mono ?_; rintro e w2 ⟨hb2, v, rfl, hv⟩; have hz2 := (hb2.block _ (lt_of_block HZ1.out)).trans HZ1.out; have HZ2 := Nu.hid hz2; have HB2 := Nu.hid (HB1.out.trans (hb2.mono HB1.out.size)); have HV := Nu.hid hv; clear hb2 hv hz2; refine Hid.out ?_)
  refine Nu.hid ?_
  clear c0 c1 c2 HB1 HZ1
  go_wp2_with (go_at_call 10; refine (HV.out.print HFP.out (HTB.out _ HB2.out) HPR.out).mono ?_; rintro e w3 ⟨rfl, hb3⟩; have hz3 := (hb3.block _ (lt_of_block HZ2.out)).trans HZ2.out; have HZ3 := Nu.hid hz3; have HB3 := Nu.hid (HB2.out.trans (hb3.mono HB2.out.size)); clear hb3 hz3 HV; refine Hid.out ?_)
  refine Nu.hid ?_
  clear HB2 HZ2
  by_cases hk0 : k = 0
  · subst hk0
    obtain ⟨hg, hL, hLl⟩ := HPR.out.yes rfl
    have hpt : Ce.parse (Ce.ofL L) L.length = (⟨pl, ls, es⟩, 0, 0) := by
      have := Ce.parse_text hg (by rw [← hL]; exact hLl)
      rwa [← hL] at this
    have HPP := Nu.hid (sb_parse L w3 (by omega))
    rw [hpt] at HPP
    have kb := sb_conv L w3
    have HB4 := Nu.hid (HB3.out.trans ((sb_below w3 ⟨L.toArray⟩).mono HB3.out.size))
    have HZ4 := Nu.hid (((sb_below w3 ⟨L.toArray⟩).block _ (lt_of_block HZ3.out)).trans HZ3.out)
    clear hg hL hLl hpt HB3 HZ3
    go_wp2_with (go_at_call 9; refine HPP.out.mono ?_; rintro e w5 he; obtain ⟨hb5, so, sa, sb, sc, rfl, hc5⟩ := he.cert (pl := pl) rfl HN.out HM.out; clear he; have HC5 := Nu.hid hc5; have HB5 := Nu.hid (HB4.out.trans (hb5.mono HB4.out.size)); have HZ5 := Nu.hid ((hb5.block _ (lt_of_block HZ4.out)).trans HZ4.out); clear hb5 hc5; refine Hid.out ?_)
    refine Nu.hid ?_
    clear HPP kb HB4 HZ4
    have hbz := box_below w5 (.bool pl) (.slice so n sa) (.slice sb m sc)
    have hz5 := heap_alloc_new w5 (.cells #[.bool pl, .slice so n sa, .slice sb m sc] 27)
    have HB6 := Nu.hid (HB5.out.trans (hbz.mono HB5.out.size))
    obtain ⟨u0, u1, u2, -⟩ := three_cells17 hz5
    obtain ⟨c0, c1, c2, -⟩ := three_cells17 ((hbz.block _ (lt_of_block HZ5.out)).trans HZ5.out)
    obtain ⟨to', te, tc, td, hs⟩ := (HC5.out.later hbz).sees
    have HSAME := Nu.hid (rsame17_yes hs (HSN.out _ HB6.out) HF.out)
    clear hbz hz5 hs HB5 HZ5 HC5
    go_wp2_with (go_at_call 15; refine HSAME.out.mono ?_; rintro e w7 ⟨rfl, hb7⟩; have HB := Nu.hid (HB6.out.trans (hb7.mono HB6.out.size)); clear hb7 c0 c1 c2 u0 u1 u2 HSAME HB6; refine Hid.out ?_)
    refine Nu.hid ?_
    go_wp2_with (at_builtin; refine wpList_copy rfl _ _ 31 rfl 5 .u8 i0 1 Tryd.underlying31 hi hz0 hz1 hz2 (by decide) _ a1 len1 cap1 z1 rfl rfl (HROW.out.later HB.out) ?_; refine Hid.out ?_)
    refine Nu.hid ?_
    intro gb c w8 hown hgb hlt hlc hb8
    rw [← List.map_take] at hown
    have HT8 := Nu.hid (own_text HTK.out (fun i hi => (HTX.out i hi).1) hown)
    have HB8 := Nu.hid (HB.out.trans (hb8.mono HB.out.size))
    have HPP := Nu.hid (parse17_any (cap := c) HT8.out (fun x hx => by cases hx; exact ⟨hlt, rfl⟩) (by omega) hlc)
    rw [HR.out] at HPP
    clear hown hb8 HB hgb hlt hlc
    obtain ⟨p, hp⟩ : ∃ p, rc.ar.length = p := ⟨_, rfl⟩
    obtain ⟨q, hq⟩ : ∃ q, rc.es.length = q := ⟨_, rfl⟩
    obtain ⟨b, hb⟩ : ∃ b, rc.pl = b := ⟨_, rfl⟩
    have HPQ := Nu.hid (And.intro hb (And.intro hp hq))
    clear hb hp hq
    go_wp2_with (go_at_call 9; refine HPP.out.mono ?_; rintro e w9 he; obtain ⟨hb9, so', sa', sb', sc', rfl, hc9⟩ := he.cert HPQ.out.1 HPQ.out.2.1 HPQ.out.2.2; clear he; have HC9 := Nu.hid hc9; have HB9 := Nu.hid (HB8.out.trans (hb9.mono HB8.out.size)); clear hb9 hc9; refine Hid.out ?_)
    refine Nu.hid ?_
    clear HPP HB8 HT8
    have hbz := box_below w9 (.bool b) (.slice so' p sa') (.slice sb' q sc')
    have HBX := Nu.hid (HB9.out.trans (hbz.mono HB9.out.size))
    obtain ⟨u0, u1, u2, -⟩ := three_cells17 (heap_alloc_new w9 (.cells #[.bool b, .slice so' p sa', .slice sb' q sc'] 27))
    have HCX := Nu.hid (HC9.out.later hbz)
    clear hbz HC9 HB9
    rcases HCASE.out with ⟨rfl, rfl, hn0, hpr, htl, hat⟩ | ⟨rfl, hrk, hp0, hp1⟩
    · have HTX1 := Nu.hid (fun W hW => row_string (cap := cap1) (HTX.out.later (w' := W) hW) htl hn0 (fun i x hx => by
        have := hat i x hx
        have hi : i < len1 := by have := (List.getElem?_eq_some_iff.1 hx).1; omega
        rw [Nat.zero_add, Ce.atF, if_pos hi] at this
        exact this))
      have HPRR := Nu.hid hpr
      clear hn0 hpr htl hat
      go_wp2_with (go_at_call 10; refine (HCX.out.print HSM.out.toP (HTB.out _ HBX.out) HPRR.out).mono ?_; rintro e wA ⟨rfl, hbA⟩; have HBA := Nu.hid (HBX.out.trans (hbA.mono HBX.out.size)); clear hbA HCX u0 u1 u2; refine Hid.out ?_)
      refine Nu.hid ?_
      have kc := HTX1.out _ HBA.out
      go_wp2
      go_ret
      exact ⟨by simp, HBA.out⟩
    · obtain ⟨rfl, rfl, rfl⟩ : false = b ∧ 0 = p ∧ 0 = q := ⟨HPQ.out.1, HPQ.out.2.1, HPQ.out.2.2⟩
      have hk0 : ¬ rk = 0 := by omega
      rcases hrk with rfl | rfl
      · go_wp2
        go_ret
        exact ⟨by simp, HBX.out⟩
      · go_wp2
        go_ret
        exact ⟨by simp, HBX.out⟩
  · have HB := HB3
    clear HB3 HZ3
    go_wp2_with (at_builtin; refine wpList_copy rfl _ _ 31 rfl 5 .u8 i0 1 Tryd.underlying31 hi hz0 hz1 hz2 (by decide) _ a1 len1 cap1 z1 rfl rfl (HROW.out.later HB.out) ?_; refine Hid.out ?_)
    refine Nu.hid ?_
    intro gb c w8 hown hgb hlt hlc hb8
    rw [← List.map_take] at hown
    have HT8 := Nu.hid (own_text HTK.out (fun i hi => (HTX.out i hi).1) hown)
    have HB8 := Nu.hid (HB.out.trans (hb8.mono HB.out.size))
    have HPP := Nu.hid (parse17_any (cap := c) HT8.out (fun x hx => by cases hx; exact ⟨hlt, rfl⟩) (by omega) hlc)
    rw [HR.out] at HPP
    clear hown hb8 HB hgb hlt hlc
    obtain ⟨p, hp⟩ : ∃ p, rc.ar.length = p := ⟨_, rfl⟩
    obtain ⟨q, hq⟩ : ∃ q, rc.es.length = q := ⟨_, rfl⟩
    obtain ⟨b, hb⟩ : ∃ b, rc.pl = b := ⟨_, rfl⟩
    have HPQ := Nu.hid (And.intro hb (And.intro hp hq))
    clear hb hp hq
    go_wp2_with (go_at_call 9; refine HPP.out.mono ?_; rintro e w9 he; obtain ⟨hb9, so', sa', sb', sc', rfl, hc9⟩ := he.cert HPQ.out.1 HPQ.out.2.1 HPQ.out.2.2; clear he; have HC9 := Nu.hid hc9; have HB9 := Nu.hid (HB8.out.trans (hb9.mono HB8.out.size)); clear hb9 hc9; refine Hid.out ?_)
    refine Nu.hid ?_
    clear HPP HB8 HT8
    have hbz := box_below w9 (.bool b) (.slice so' p sa') (.slice sb' q sc')
    have HBX := Nu.hid (HB9.out.trans (hbz.mono HB9.out.size))
    obtain ⟨u0, u1, u2, -⟩ := three_cells17 (heap_alloc_new w9 (.cells #[.bool b, .slice so' p sa', .slice sb' q sc'] 27))
    have HCX := Nu.hid (HC9.out.later hbz)
    clear hbz HC9 HB9
    rcases HCASE.out with ⟨rfl, rfl, hn0, hpr, htl, hat⟩ | ⟨rfl, hrk, hp0, hp1⟩
    · have HTX1 := Nu.hid (fun W hW => row_string (cap := cap1) (HTX.out.later (w' := W) hW) htl hn0 (fun i x hx => by
        have := hat i x hx
        have hi : i < len1 := by have := (List.getElem?_eq_some_iff.1 hx).1; omega
        rw [Nat.zero_add, Ce.atF, if_pos hi] at this
        exact this))
      have HPRR := Nu.hid hpr
      clear hn0 hpr htl hat
      go_wp2_with (go_at_call 10; refine (HCX.out.print HSM.out.toP (HTB.out _ HBX.out) HPRR.out).mono ?_; rintro e wA ⟨rfl, hbA⟩; have HBA := Nu.hid (HBX.out.trans (hbA.mono HBX.out.size)); clear hbA HCX u0 u1 u2; refine Hid.out ?_)
      refine Nu.hid ?_
      have kc := HTX1.out _ HBA.out
      go_wp2
      go_ret
      exact ⟨by simp, HBA.out⟩
    · obtain ⟨rfl, rfl, rfl⟩ : false = b ∧ 0 = p ∧ 0 = q := ⟨HPQ.out.1, HPQ.out.2.1, HPQ.out.2.2⟩
      have hk0 : ¬ rk = 0 := by omega
      rcases hrk with rfl | rfl
      · go_wp2
        go_ret
        exact ⟨by simp, HBX.out⟩
      · go_wp2
        go_ret
        exact ⟨by simp, HBX.out⟩
set_option maxRecDepth 100000 in
/-- What the walk gives, for every argument and every world that holds the tables. -/
theorem contract (H : Type) (enc : TypeId × Value → H) (W : World) (base : Nat) (args : Array Value) (ds gs : List (DataW H)) (before : List MemPlace)
    (hval : ∀ (j : Nat) t v, Tryd.f6.params[j]? = some t → args[j]? = some v → Value.okWide Tryd.prog W .any base t v)
    (hW : DataW.Whole enc Tryd.prog Tryd.f6.params.toList Rows.certBackSpec.vars false W args.toList ds gs before)
    (hsz : (DataW.weightsEach Tryd.prog (Tryd.f6.params.toList ++ (Rows.OpenSpec.upto Rows.certBackSpec).bare.plain.varTypes Tryd.prog) (ds ++ gs)).all (· ≤ reachBytes) = true)
    (hk : Rows.uptoSmall H (ds ++ gs) = true)
    (hL : laidMet Tryd.prog listed W) :
    Calls Tryd.prog 6 args W fun e W' => ∃ v, e = .returned v ∧ Rows.certBackSpec.post enc Tryd.prog Tryd.f6 false true false false W args v W' := by
  have hW' := hW
  obtain ⟨p, q, hA0, hV, rfl, hfz, hnd⟩ := hW
  have hA : DataW.TrodAll enc Tryd.prog W 0 (fun _ => true) true Tryd.f6.params.toList args.toList ds p := hA0
  rw [Tryd.params6] at hA hval hsz
  obtain ⟨v0, vs0, d0, ds0, p0, q0, hargs, rfl, rfl, h0, r0⟩ := trodAll_cons hA
  obtain ⟨v1, vs1, d1, ds1, p1, q1, rfl, rfl, rfl, h1, r1⟩ := trodAll_cons r0
  obtain ⟨rfl, rfl, rfl⟩ := trodAll_nil r1
  obtain rfl : args = #[v0, v1] := by cases args; simp_all
  obtain ⟨rfl, rfl⟩ := trodVars_none hV
  have k0 := h0
  have lt0 : ∀ x ∈ p0, x.block < W.heap.size := by obtain ⟨m, hm⟩ := k0; exact DataW.trod_lt m _ _ _ hm
  obtain ⟨p0, a0, c0, l0, b0, e0, s0, rfl, w0⟩ := cert_of_trod (j := 0) (hval 0 27 v0 rfl rfl) h0 hk rfl
  obtain ⟨a1, len1, cap1, rfl⟩ := okWide_slice Tryd.underlying31 (hval 1 31 v1 rfl rfl)
  have k1 := h1
  have lt1 : ∀ x ∈ p1, x.block < W.heap.size := by obtain ⟨m, hm⟩ := k1; exact DataW.trod_lt m _ _ _ hm
  obtain ⟨z1, w1⟩ := IsRow.of_trod (j := 1) Tryd.underlying31 Tryd.underlying5 cellsU8 bytesU8 h1 hsz rfl rfl
  have u1 : len1 ≤ 1048576 := IsRow.upto hk (j := 1) Tryd.underlying31 Tryd.underlying5 cellsU8 h1 rfl
  clear hA0
  refine (walk p0 a0 c0 l0 b0 e0 s0 a1 len1 cap1 z1 W w0 w1 u1 (table hL)).mono fun e W' ⟨he, bel⟩ => ?_
  subst he
  exact ⟨_, rfl, _, _, _, [], _, [], hW', trodAll_mk1 (shut_bool Tryd.underlying4 _), (trodAll_cons_mk (Below.trod laidOut (by kernel_rfl) (of_decide_eq_true (by kernel_rfl)) k0 bel lt0) (trodAll_cons_mk (Below.trod laidOut (by kernel_rfl) (of_decide_eq_true (by kernel_rfl)) k1 bel lt1) trodAll_mk0)), rfl, bel.frame _, fun h => by cases h⟩

theorem laid_met (os : Os) : laidMet Tryd.prog Rows.certBackUptoRow.laid ((laidWorld os).forCall (fun _ _ => 0) ⟨#[], #[.agg #[.bool false, .slice none 0 0, .slice none 0 0], .slice none 0 0], []⟩).memory :=
  laidMet_of_run' 100 (by kernel_rfl) (by kernel_rfl)
theorem reads (os : Os) {H : Type} (enc : TypeId × Value → H) : ∃ places, DataW.whole enc Tryd.prog ((laidWorld os).forCall (fun _ _ => 0) ⟨#[], #[.agg #[.bool false, .slice none 0 0, .slice none 0 0], .slice none 0 0], []⟩).memory Tryd.f6.params.toList Rows.certBackSpec.vars false (#[.agg #[.bool false, .slice none 0 0, .slice none 0 0], .slice none 0 0] : Array Value).toList 8 = some ([.agg [.lit (.bool false), .nil, .nil], .nil], [], places) :=
  ⟨[], by kernel_rfl⟩

set_option maxRecDepth 100000 in
theorem lifted (os : Os) (started : os.Started) (H : Type) (enc : TypeId × Value → H) (F : Stop.Interp) :
    ReturnsInHanded {} Tryd.checked os 6 .any ((Rows.OpenSpec.upto Rows.certBackSpec).preRow enc Tryd.prog Tryd.f6 Rows.certBackUptoRow.domain false Rows.certBackUptoRow.laid) (((Rows.OpenSpec.upto Rows.certBackSpec).at F).post enc Tryd.prog Tryd.f6 false true false false) := by
  obtain ⟨places, hx⟩ := reads os enc
  refine returnsInHanded_of_row (C := Tryd.checked) (s := (Rows.OpenSpec.upto Rows.certBackSpec)) own started (by kernel_rfl) Tryd.func6
    (witness_row_at (enc := enc) (C := Tryd.checked) false (laidWorld os) #[.agg #[.bool false, .slice none 0 0, .slice none 0 0], .slice none 0 0] rfl (by kernel_rfl) (by kernel_rfl) (by kernel_rfl)
      (OpenSpec.preRow_of_cond 8 hx (by kernel_rfl) (fun k hk => by cases hk; kernel_rfl) (by kernel_rfl) (laid_met os))) ?_
  intro W base args ds gs before hval hW _ hcond hsz hL _ _
  exact contract H enc W base args ds gs before hval hW hsz (hcond _ rfl) hL

theorem said : Rows.CertBackUptoSaid :=
  OpenClaim.holds_of_cond 6 Tryd.f6 rfl rfl rfl rfl rfl rfl rfl ⟨rfl, rfl, rfl, rfl, rfl⟩ rfl rfl rfl rfl rfl (by kernel_rfl) Tryd.func6 (by kernel_rfl)
    (of_decide_eq_true (by kernel_rfl)) (by unfold Func.isWrapper; first | (rw [if_pos (by decide +kernel)]; kernel_rfl) | (rw [if_neg (by decide +kernel)]; exact ⟨rfl, rfl⟩))
    (fun os started H enc _ F => by rw [OpenClaim.pre_eq_preRow]; exact lifted os started H enc F)

theorem plain (f : FuncId) (fn : Func) (hf : Tryd.pinned.checked.prog.funcNamed "tangram/tangramlaw17.CertBack" = some f) (hfn : Tryd.pinned.checked.prog.funcs[f]? = some fn) :
    true = Tryd.pinned.checked.prog.looks [] ∧ ∀ (j : Nat) t, fn.params[j]? = some t → Tryd.pinned.checked.prog.wantsStandIn t = false := by
  obtain rfl : f = 6 := Option.some.inj ((show Tryd.prog.funcNamed "tangram/tangramlaw17.CertBack" = some 6 by kernel_rfl).symm.trans hf) |>.symm
  obtain rfl : fn = Tryd.f6 := (Option.some.inj (Tryd.func6.symm.trans hfn)).symm
  refine ⟨by kernel_rfl, fun j t ht => ?_⟩
  rw [Tryd.params6] at ht
  obtain hx : t = 27 ∨ t = 31 := by simpa using Array.mem_of_getElem? ht
  rcases hx with rfl | rfl
  · exact (show Tryd.prog.wantsStandIn 27 = false by kernel_rfl)
  · exact (show Tryd.prog.wantsStandIn 31 = false by kernel_rfl)

theorem card : Rows.CertBackUptoCardSaid :=
  Claim7.holds_tied_plain_at .later [] _ _ _ _ said (fun _ h => by cases h) (by kernel_rfl) (fun _ h => by cases h) certBackUpto_row_tie rfl ⟨rfl, rfl⟩ (by kernel_rfl) rfl plain (by kernel_rfl)

end lawCeB

theorem certBackUpto_holds : Rows.CertBackUptoCardSaid := lawCeB.card

#print axioms certBackUpto_holds
end Go.Proofs.YtfjgmbimapkabaaDoor
