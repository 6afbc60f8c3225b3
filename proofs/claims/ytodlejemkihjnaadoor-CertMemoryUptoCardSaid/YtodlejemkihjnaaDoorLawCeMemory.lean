/-
  Proved: for every certificate and all bytes of bulk at most 1048576 the law CertMemory answers true, and they read afterwards as before.
-/
import Derived.Test.YtodlejemkihjnaaDoorMg30
import Derived.Test.YtodlejemkihjnaaDoorMg20
import Derived.Test.YtodlejemkihjnaaDoorMg21
namespace Go.Proofs.YtodlejemkihjnaaDoor
open Go.ChangeShapes Go.WideShapes Go.ChangeAt Go.RowKit

namespace lawCeM

theorem below_grown0 {w w' : World} (h : w.grownBy w' none) : Below w.heap.size w w' := (Below.refl _ _).grown h (Nat.le_refl _) (fun k hk => by cases hk)

set_option maxRecDepth 100000 in
set_option maxHeartbeats 16000000 in
theorem walk (pl : Bool) (ao : Option Addr) (ca : Nat) (ls : List (List Int)) (eo : Option Addr) (ce : Nat) (es : List (Int × Int)) (a1 : Option Addr) (len1 cap1 : Nat) (z1 : List Int) (w : World) (w0 : CertIn w pl ao ls eo ce es) (w1 : IsRow .u8 1 w a1 len1 cap1 z1) (hu : len1 ≤ 1048576) (ht : Tab w) :
    Calls Tryd.prog 3 #[.agg #[.bool pl, .slice ao ls.length ca, .slice eo es.length ce], .slice a1 len1 cap1] w fun e w' => e = .returned (.bool true) ∧ Below w.heap.size w w' := by
  obtain ⟨i0, hi, hz0, hz1, hz2⟩ := info_parts Tryd.infoU8
  obtain ⟨L, k, hpr⟩ := Ce.pr_is ⟨pl, ls, es⟩
  obtain ⟨g, htx⟩ : ∃ g, (fun i => z1.getD i 0) = g := ⟨_, rfl⟩
  have HG := Nu.hid htx
  have HTX := Nu.hid w1.text
  rw [htx] at HTX
  obtain ⟨⟨rc, rp, rk⟩, hR⟩ : ∃ R, Ce.parse (Ce.atF len1 g) len1 = R := ⟨_, rfl⟩
  have hsm : Ce.Small rc := by have := Ce.parse_small HTX.out.txt; rw [hR] at this; exact this
  have HROW := Nu.hid w1
  have HNIL : Hid (a1 = none → len1 = 0) := by
    rcases w1 with ⟨_, rfl, _⟩ | ⟨x, rfl, _⟩
    · exact fun _ => rfl
    · intro h; cases h
  have HTK := Nu.hid w1.take
  have HR := Nu.hid hR
  have HSM := Nu.hid hsm
  have HPR := Nu.hid hpr
  have HFP := Nu.hid w0.fitsP
  have HF := Nu.hid w0.fits
  have HC := Nu.hid w0
  have HTB := Nu.hid (tab_below ht)
  have hz := heap_alloc_new w (.cells #[.bool pl, .slice ao ls.length ca, .slice eo es.length ce] 25)
  have hbz := box_below w (.bool pl) (.slice ao ls.length ca) (.slice eo es.length ce)
  have HZ := Nu.hid hz
  have HB := Nu.hid hbz
  obtain ⟨n, hn⟩ : ∃ n, ls.length = n := ⟨_, rfl⟩
  obtain ⟨m, hm⟩ : ∃ m, es.length = m := ⟨_, rfl⟩
  have HCP : Hid (∀ W, Below w.heap.size w W → Calls Tryd.prog 5 #[.agg #[.bool pl, .slice ao n ca, .slice eo m ce]] W fun e w' => Below W.heap.size W w' ∧ ∃ v, e = .returned v ∧ CertAt w' W.heap.size v ⟨pl, ls, es⟩) := fun W hW => by rw [← hn, ← hm]; exact (HC.out.later hW).copy
  have HSN : Hid (∀ W, Below w.heap.size w W → Ce.Sees W (.agg #[.bool pl, .slice ao n ca, .slice eo m ce]) ⟨pl, ls, es⟩ ao eo ca ce) := fun W hW => by rw [← hn, ← hm]; exact (HC.out.later hW).sees
  have HN := Nu.hid hn
  have HM := Nu.hid hm
  rw [hn, hm] at HZ HB ⊢
  clear w0 w1 ht hpr hz hbz hn hm hR hsm htx
  go_enter Tryd.func3, Tryd.ntmps3
  go_wp2_with (go_at_call 4; refine (fixed17_any (HTB.out _ HB.out)).mono ?_; rintro e w1 ⟨rfl, hb1⟩; have hz1 := (hb1.block _ (lt_of_block HZ.out)).trans HZ.out; have HB1 := Nu.hid (HB.out.trans (hb1.mono HB.out.size)); have c0 := (three_cells17 hz1).1; have c1 := (three_cells17 hz1).2.1; have c2 := (three_cells17 hz1).2.2.1; have HZ1 := Nu.hid hz1; clear hb1 hz1; refine Hid.out ?_)
  refine Nu.hid ?_
  clear HB HZ
  go_wp2_with (go_at_call 5; refine (HCP.out _ HB1.out).mono ?_; rintro e w2 ⟨hb2, v, rfl, hv⟩; obtain ⟨va, ve, vs, rfl, hrw, how⟩ := hv; obtain ⟨mo, mc, rfl⟩ := row_shape hrw; obtain ⟨ne, nc, rfl, -⟩ := how.form; dsimp only; rw [HN.out, HM.out]; have hz2 := (hb2.block _ (lt_of_block HZ1.out)).trans HZ1.out; have HZ2 := Nu.hid hz2; have HB2 := Nu.hid (HB1.out.trans (hb2.mono HB1.out.size)); have HV : Hid (CertAt w2 w1.heap.size (.agg #[.bool pl, .slice mo n mc, .slice ne m nc]) ⟨pl, ls, es⟩) := Nu.hid ⟨_, _, vs, by dsimp only; rw [HN.out, HM.out], hrw, how⟩; clear hb2 hz2 hrw how; refine Hid.out ?_)
  refine Nu.hid ?_
  clear c0 c1 c2 HB1 HZ1
  -- the copy lies in a variable
  have hby := box_below w2 (.bool pl) (.slice mo n mc) (.slice ne m nc)
  have HMY := Nu.hid (heap_alloc_new w2 (.cells #[.bool pl, .slice mo n mc, .slice ne m nc] 25))
  have HZ3 := Nu.hid ((hby.block _ (lt_of_block HZ2.out)).trans HZ2.out)
  have HB3 := Nu.hid (HB2.out.trans (hby.mono HB2.out.size))
  have HV3 := Nu.hid (HV.out.later hby)
  obtain ⟨u0, u1, u2, -⟩ := three_cells17 HMY.out
  clear hby HV HZ2 HB2
  have HPA : Hid (∀ W, Below (w2.alloc (.cells #[.bool pl, .slice mo n mc, .slice ne m nc] 25)).heap.size (w2.alloc (.cells #[.bool pl, .slice mo n mc, .slice ne m nc] 25)) W → Calls Tryd.prog 6 #[.agg #[.bool pl, .slice mo n mc, .slice ne m nc]] W fun e w' => e = .returned (.tuple #[.string ⟨L.toArray⟩, .int .i64 k]) ∧ Below W.heap.size W w') := fun W hW => (HV3.out.later hW).print HFP.out (HTB.out _ (HB3.out.trans (hW.mono HB3.out.size))) HPR.out
  go_wp2_with (go_at_call 6; refine (HPA.out _ (Below.refl _ _)).mono ?_; rintro e w4 ⟨rfl, hb4⟩; have H34 := Nu.hid hb4; obtain ⟨v0, v1, v2, -⟩ := three_cells17 ((hb4.block _ (lt_of_block HMY.out)).trans HMY.out); clear hb4 u0 u1 u2; refine Hid.out ?_)
  refine Nu.hid ?_
  go_wp2_with (go_at_call 6; refine (HPA.out _ H34.out).mono ?_; rintro e w5 ⟨rfl, hb5⟩; have H35 := Nu.hid (H34.out.trans (hb5.mono H34.out.size)); clear hb5 v0 v1 v2 H34; refine Hid.out ?_)
  refine Nu.hid ?_
  obtain ⟨v0, v1, v2, -⟩ := three_cells17 ((H35.out.block _ (lt_of_block HMY.out)).trans HMY.out)
  obtain ⟨u0, u1, u2, -⟩ := three_cells17 ((H35.out.block _ (lt_of_block HZ3.out)).trans HZ3.out)
  have HB5 := Nu.hid (HB3.out.trans (H35.out.mono HB3.out.size))
  have hsame : ∀ W, Below w5.heap.size w5 W → Calls Tryd.prog 7 #[.agg #[.bool pl, .slice mo n mc, .slice ne m nc], .agg #[.bool pl, .slice ao n ca, .slice eo m ce]] W fun e w' => e = .returned (.bool true) ∧ Below W.heap.size W w' := fun W hW => by
    obtain ⟨x1, x2, x3, x4, hs⟩ := (HV3.out.later (H35.out.trans (hW.mono H35.out.size))).sees
    exact rsame17_yes hs (HSN.out _ (HB5.out.trans (hW.mono HB5.out.size))) HF.out
  have HSAME := Nu.hid hsame
  clear hsame HPA HV3 HMY H35 HZ3 HB3
  go_wp2_with (go_at_call 7; refine (HSAME.out _ (Below.refl _ _)).mono ?_; rintro e w6 ⟨rfl, hb6⟩; have HB6 := Nu.hid (HB5.out.trans (hb6.mono HB5.out.size)); clear hb6 u0 u1 u2 v0 v1 v2 HB5 HSAME; refine Hid.out ?_)
  refine Nu.hid ?_
  have HROW6 := Nu.hid (HROW.out.later HB6.out)
  have p0 : IntKind.i64.wrap ((len1 : Int) + 3) = (len1 : Int) + 3 := by simp [IntKind.wrap, IntKind.bits, IntKind.signed]; omega
  go_wp2_with (refine wpList_make_own _ rfl _ _ 26 rfl w6.heap.size 5 i0 (.int .u8 0) 1 Tryd.underlying26 hi hz0 hz1 _ _ _ (len1 + 3) rfl rfl (by rfl) (by rw [hz2]; omega) (by unfold maxLen; omega) (Nat.le_refl _) ?_; intro w7 hown7 hg7; refine Hid.out ?_)
  refine Nu.hid ?_
  have HROW7 := Nu.hid (HROW6.out.later (below_grown0 hg7))
  have HB7 := Nu.hid (HB6.out.trans ((below_grown0 hg7).mono HB6.out.size))
  have hs7 := hg7.size
  go_wp2_with (at_builtin; refine wpList_grow rfl _ _ 26 rfl 5 .u8 i0 1 Tryd.underlying26 hi hz0 hz1 hz2 w7 w6.heap.size 0 w6.heap.size (len1 + 3) [] hown7 hs7 a1 len1 cap1 z1 rfl rfl HROW7.out (by unfold maxLen; omega) (by omega) ?_; intro g8 c8 w8 hown8 hgb8 hlt8 hlc8 hb8; rw [Nat.zero_add, List.nil_append] at hown8; rw [Nat.zero_add] at hlc8; rw [Nat.zero_add]; refine Hid.out ?_)
  refine Nu.hid ?_
  have HB8 := Nu.hid (HB7.out.trans (hb8.mono HB6.out.size))
  clear hown7 hg7 hb8
  go_wp2_with (at_builtin; refine wpList_append_own _ rfl _ _ 26 rfl w6.heap.size 5 i0 (.int .u8 0) 1 1 Tryd.underlying26 hi hz0 hz1 hz2 rfl (by decide) _ _ _ rfl (World.ownsRow.alloc hown8 _) ⟨w8.heap.size, 0, none⟩ 3 3 [.int .u8 91, .int .u8 92, .int .u8 93] rfl rfl (cell_three_new17 _ _ _ _ _) (by intro u' hu'; simp at hu'; rcases hu' with rfl | rfl | rfl <;> rfl) (by unfold maxLen; omega) (by omega) (by simp; omega) ?_; intro v9 w9 hown9 hg9 _; refine Hid.out ?_)
  refine Nu.hid ?_
  have hle9 : ∀ q, (Value.slice (some ⟨g8, 0, none⟩) len1 c8).ownBlock = some q → w.heap.size ≤ q := fun q hq => by
    have e : g8 = q := by simpa [Value.ownBlock] using hq
    have := HB6.out.size
    omega
  have HB9 := Nu.hid ((HB8.out.alloc HB8.out.size _).grown hg9 (by have := HB8.out.size; simp; omega) hle9)
  clear hg9 hown8 hle9
  rcases hown9.2 with ⟨-, h0⟩ | ⟨g9, c9, cur9, rfl, hgb9, hh9, hlc9, -⟩
  · omega
  have hg9l := lt_of_block hh9
  have HOWN9 := Nu.hid hown9
  have hT9 : HasText w9 (some ⟨g9, 0, none⟩) len1 g := fun i hi' => by
    have hl : i < z1.length := by have := HTK.out; simp at this; omega
    have eg : g i = z1.getD i 0 := by rw [← HG.out]
    refine ⟨(HTX.out i hi').1, g9, 0, rfl, ?_⟩
    rw [Nat.zero_add, eg]
    have hc := World.ownsRow.cells hown9 (g := g9) rfl i (.int .u8 (z1.getD i 0)) (by
      rw [List.getElem?_append_left (by rw [List.length_map, HTK.out]; exact hi'), List.getElem?_map, List.getElem?_take, if_pos hi', List.getElem?_eq_getElem hl]
      simp [List.getD_eq_getElem?_getD, List.getElem?_eq_getElem hl])
    rw [addrE] at hc
    exact hc
  have HT9 := Nu.hid hT9
  clear hown9 hh9 hT9
  have HRP := Nu.hid (rparse17_any (cap := cap1) (HTX.out.later HB9.out) (by omega))
  rw [HR.out] at HRP
  obtain ⟨p, hp⟩ : ∃ p, rc.ar.length = p := ⟨_, rfl⟩
  obtain ⟨q, hq⟩ : ∃ q, rc.es.length = q := ⟨_, rfl⟩
  obtain ⟨b, hb⟩ : ∃ b, rc.pl = b := ⟨_, rfl⟩
  have HPQ := Nu.hid (And.intro hb (And.intro hp hq))
  clear hb hp hq
  go_wp2_with (go_at_call 8; refine HRP.out.mono ?_; rintro e wA he; obtain ⟨hbA, so, sa, sb, sc, rfl, hcA⟩ := he.cert HPQ.out.1 HPQ.out.2.1 HPQ.out.2.2; clear he; have HCA := Nu.hid hcA; have HBA := Nu.hid (HB9.out.trans (hbA.mono HB9.out.size)); have H9A := Nu.hid hbA; clear hbA hcA; refine Hid.out ?_)
  refine Nu.hid ?_
  clear HRP
  have hbW := box_below wA (.bool b) (.slice so p sa) (.slice sb q sc)
  have HWB := Nu.hid (heap_alloc_new wA (.cells #[.bool b, .slice so p sa, .slice sb q sc] 25))
  have H9W := Nu.hid (H9A.out.trans (hbW.mono H9A.out.size))
  have HBW := Nu.hid (HBA.out.trans (hbW.mono HBA.out.size))
  have HCW := Nu.hid (HCA.out.later hbW)
  have hlt' : wA.heap.size < (wA.alloc (.cells #[.bool b, .slice so p sa, .slice sb q sc] 25)).heap.size := by simp
  clear hbW H9A HBA HCA
  go_wp2_with fail
  generalize wA.alloc (.cells #[.bool b, .slice so p sa, .slice sb q sc] 25) = W at HWB H9W HBW HCW hlt' ⊢
  have hs9W : w9.heap.size ≤ W.heap.size := H9W.out.size
  have i1 : (0 : Int) ≤ (len1 : Int) := by omega
  have i2 : (len1 : Int) ≤ (c9 : Int) := by omega
  go_loopw [17, 18] (fun va c wr => ∃ (k : Nat) (cs : List Cm.Ct), k ≤ 6 ∧ c = .int .i64 k ∧ cs.length = k ∧ Below W.heap.size W wr ∧ Cm.Six rc.ar rc.es wr cs ∧ wr.ownsRow W.heap.size 25 3 va k (Cm.flat b cs) ∧ ∀ (j : Nat) (c : Cm.Ct), cs[j]? = some c → W.heap.size ≤ c.lo) (fun _ c _ => 6 - (intOf c).toNat)
  case atStart => exact ⟨0, [], by omega, rfl, rfl, Below.refl _ _, Cm.Six.nil _, World.ownsRow_nil _ _ _ _, fun j c h => by simp at h⟩
  case round =>
    obtain ⟨k, cs, hk, rfl, hlk, hbel, hsix, hrow, hbase⟩ := hrel
    have HBASE := Nu.hid hbase
    clear hbase
    by_cases hlt6 : k < 6
    · have hlti : (k : Int) < 6 := by omega
      have HBEL := Nu.hid hbel
      have HSIX := Nu.hid hsix
      have HRW := Nu.hid hrow
      have HLK := Nu.hid hlk
      have HPP := Nu.hid (parse17_any (cap := c9) (HT9.out.later (H9W.out.trans (hbel.mono hs9W))) (fun x hx => by cases hx; exact ⟨Nat.lt_of_lt_of_le hg9l (Nat.le_trans hs9W hbel.size), rfl⟩) (by omega) (by omega))
      rw [HR.out] at HPP
      clear hbel hsix hrow hlk
      go_wp2_with (go_at_call 9; refine HPP.out.mono ?_; rintro e w6 he; obtain ⟨hb6, to', ta, tb, tc, rfl, hc6⟩ := he.cert HPQ.out.1 HPQ.out.2.1 HPQ.out.2.2; clear he; have HC6 := Nu.hid hc6; have HB6' := Nu.hid hb6; clear hb6 hc6; refine Hid.out ?_)
      refine Nu.hid ?_
      clear HPP
      have hbz := box_below w6 (.bool b) (.slice to' p ta) (.slice tb q tc)
      have hz6 := heap_alloc_new w6 (.cells #[.bool b, .slice to' p ta, .slice tb q tc] 25)
      have HRZ := Nu.hid (HB6'.out.trans (hbz.mono HB6'.out.size))
      have HWZ := Nu.hid (HBEL.out.trans (HRZ.out.mono HBEL.out.size))
      have HCZ := Nu.hid (HC6.out.later hbz)
      obtain ⟨u0, u1, u2, -⟩ := three_cells17 hz6
      obtain ⟨v0, v1, v2, -⟩ := three_cells17 ((HWZ.out.block _ hlt').trans HWB.out)
      have hsame : Calls Tryd.prog 7 #[.agg #[.bool b, .slice to' p ta, .slice tb q tc], .agg #[.bool b, .slice so p sa, .slice sb q sc]] (w6.alloc (.cells #[.bool b, .slice to' p ta, .slice tb q tc] 25)) fun e w' => e = .returned (.bool true) ∧ Below (w6.alloc (.cells #[.bool b, .slice to' p ta, .slice tb q tc] 25)).heap.size (w6.alloc (.cells #[.bool b, .slice to' p ta, .slice tb q tc] 25)) w' := by
        obtain ⟨x1, x2, x3, x4, hs⟩ := HCZ.out.sees
        obtain ⟨y1, y2, y3, y4, hs'⟩ := (HCW.out.later HWZ.out).sees
        exact rsame17_yes hs hs' HSM.out.fits
      have HSAME := Nu.hid hsame
      have hx6 := hz6
      have HX6 := Nu.hid hx6
      clear hbz hz6 hsame hx6 HC6 HB6'
      go_wp2_with (go_at_call 7; refine HSAME.out.mono ?_; rintro e w7 ⟨rfl, hb7⟩; have HR7 := Nu.hid (HRZ.out.trans (hb7.mono HRZ.out.size)); have HC7 := Nu.hid (HCZ.out.later hb7); have hx7 := (hb7.block _ (lt_of_block HX6.out)).trans HX6.out; clear hb7 u0 u1 u2 v0 v1 v2; obtain ⟨u0, u1, u2, -⟩ := three_cells17 hx7; clear hx7 HRZ HCZ HX6; refine Hid.out ?_)
      refine Nu.hid ?_
      have HW7 := Nu.hid (HBEL.out.trans (HR7.out.mono HBEL.out.size))
      have hrow7 := own_below17 HRW.out HR7.out
      have HROW7' := Nu.hid hrow7
      clear HSAME HRW hrow7
      go_wp2_with (at_builtin; refine wpList_pushC17 rfl _ _ rfl w7 W.heap.size _ _ _ b to' tb p ta q tc HROW7'.out (Nat.le_trans HBEL.out.size HR7.out.size) (by omega) rfl rfl ?_; intro v8 w8 hown8 hg8; refine Hid.out ?_)
      refine Nu.hid ?_
      obtain ⟨ct, hct, hlo, hat⟩ := Cm.At.parsed HC7.out HR7.out.size
      rw [HPQ.out.1] at hct
      obtain ⟨eav, eev⟩ : Value.slice to' p ta = ct.av ∧ Value.slice tb q tc = ct.ev := by simpa using hct
      have hs7 : Cm.Six rc.ar rc.es w7 (cs ++ [ct]) := HSIX.out.snoc HR7.out hat (by omega)
      have hs8 := hs7.pushed HROW7'.out (by decide) (by decide) (by decide) hg8
      have hle := fun x hx => (World.ownsRow.lt HROW7'.out x hx).1
      have hb8 : Below W.heap.size W w8 := (HW7.out.alloc HW7.out.size _).grown hg8 (by have := HW7.out.size; simp; omega) hle
      rw [eav, eev, ← Cm.flat_snoc] at hown8
      have hfin : ∃ (cs' : List Cm.Ct), cs'.length = k + 1 ∧ Below W.heap.size W w8 ∧ Cm.Six rc.ar rc.es w8 cs' ∧ w8.ownsRow W.heap.size 25 3 v8 (k + 1) (Cm.flat b cs') ∧ ∀ (j : Nat) (c : Cm.Ct), cs'[j]? = some c → W.heap.size ≤ c.lo := ⟨cs ++ [ct], by simp [HLK.out], hb8, hs8, hown8, fun j c h => by
        by_cases hj : j < cs.length
        · rw [List.getElem?_append_left hj] at h
          exact HBASE.out j c h
        · rw [List.getElem?_append_right (by omega)] at h
          have h0 := (List.getElem?_eq_some_iff.1 h).1
          simp at h0
          rw [h0] at h
          cases h
          rw [hlo]
          exact HBEL.out.size⟩
      have HFIN := Nu.hid hfin
      clear hs7 hs8 hle hb8 hfin hown8 hg8 hct hlo hat eav eev
      go_wp2
      go_roundw
      case rel =>
        obtain ⟨cs', f1, f2, f3, f4, f5⟩ := HFIN.out
        exact ⟨k + 1, cs', by omega, by go_num, f1, f2, f3, f4, f5⟩
      case measure => simp [intOf]; omega
    · obtain rfl : k = 6 := by omega
      rw [show (((6 : Nat) : Int)) = 6 from rfl]
      obtain ⟨W9, rfl⟩ : ∃ W9, W9 = wr := ⟨_, rfl⟩
      have hsr : W.heap.size ≤ W9.heap.size := hbel.size
      have hR4 : Below w9.heap.size w9 W9 := H9W.out.trans (hbel.mono hs9W)
      have hRow := own_below17 HOWN9.out hR4
      have HROWR := Nu.hid hRow
      have HBEL := Nu.hid hbel
      have HSIX := Nu.hid hsix
      have HALL := Nu.hid hrow
      have HLK := Nu.hid hlk
      have HTR := Nu.hid (HT9.out.later hR4)
      have HBR := Nu.hid (HBW.out.trans (hbel.mono HBW.out.size))
      have cv1 : ∀ nq, (convert 26 9 (.slice (some ⟨g9, 0, none⟩) len1 c9)).run Tryd.prog (W9.drewN nq) = .ok (.string ⟨(Nu.bytesAt g 0 len1).toArray⟩) (W9.drewN nq) := fun nq => conv_text17 (W := W9.drewN nq) HTR.out (fun h => by cases h)
      have cv2 : ∀ nq, (convert 26 9 (.slice a1 len1 cap1)).run Tryd.prog (W9.drewN nq) = .ok (.string ⟨(Nu.bytesAt g 0 len1).toArray⟩) (W9.drewN nq) := fun nq => conv_text17 (W := W9.drewN nq) (HTX.out.later (below_drewN HBR.out nq)) HNIL.out
      have tail : ∀ j u, [Value.int .u8 91, .int .u8 92, .int .u8 93][j]? = some u → W9.cell? ⟨g9, len1 + j, none⟩ = some u := fun j u h => by
        have := World.ownsRow.cells HROWR.out (g := g9) rfl (len1 + j) u (by rw [List.getElem?_append_right (by rw [List.length_map, HTK.out]; omega), List.length_map, HTK.out, Nat.add_sub_cancel_left]; exact h)
        rw [addrE] at this
        exact this
      have t0 : W9.cell? ⟨g9, len1, none⟩ = some (.int .u8 91) := tail 0 _ rfl
      have t1 : W9.cell? ⟨g9, len1 + 1, none⟩ = some (.int .u8 92) := tail 1 _ rfl
      have t2 : W9.cell? ⟨g9, len1 + 2, none⟩ = some (.int .u8 93) := tail 2 _ rfl
      clear hRow hbel hsix hrow hR4 tail hlk
      generalize Nu.bytesAt g 0 len1 = LB at cv1 cv2
      have i3 : (len1 : Int) < (len1 : Int) + 3 := by omega
      have i4 : (len1 : Int) + 1 < (len1 : Int) + 3 := by omega
      have i5 : (len1 : Int) + 2 < (len1 : Int) + 3 := by omega
      go_wp2_with fail
      go_quiet (fail)
      clear cv1 cv2 t0 t1 t2
      go_wp2
      go_loopw [133] (fun c wq => ∃ (j : Nat) (xs : List Value), j ≤ len1 + 3 ∧ c = .int .i64 j ∧ wq.ownsRow w6.heap.size 5 1 (.slice (some ⟨g9, 0, none⟩) (len1 + 3) c9) (len1 + 3) xs ∧ W9.grownBy wq (some g9)) (fun c _ => len1 + 3 - (intOf c).toNat)
      case atStart => exact ⟨0, _, by omega, rfl, HROWR.out, grownBy_drewN (World.grownBy.refl _ _) _⟩
      case round =>
        obtain ⟨j, xs, hj, rfl, hrow, hgr⟩ := hrel
        by_cases hlt : j < len1 + 3
        · have hlti : (j : Int) < (len1 : Int) + 3 := by omega
          have hj0 : (0 : Int) ≤ (j : Int) := by omega
          have hxl : xs.length = len1 + 3 := by simpa using hrow.1
          obtain ⟨u, hu⟩ : ∃ u, xs[j]? = some u := ⟨_, List.getElem?_eq_getElem (by omega)⟩
          have cj : wr.cell? ⟨g9, j, none⟩ = some u := by
            have := World.ownsRow.cells hrow (g := g9) rfl j u hu
            rw [addrE] at this
            exact this
          have fj := World.ownsRow.frozenAt hrow j
          have HR2 := Nu.hid (World.ownsRow.stored hrow j (.int .u8 120))
          have HG2 := Nu.hid hgr
          clear hrow hgr hu hxl
          go_wp2
          go_roundw
          case rel => exact ⟨j + 1, _, by omega, by go_num, HR2.out.1, grownBy_setCell HG2.out j _⟩
          case measure => simp [intOf]; omega
        · obtain rfl : j = len1 + 3 := by omega
          rw [show (((len1 + 3 : Nat)) : Int) = (len1 : Int) + 3 by omega]
          obtain ⟨X, rfl⟩ : ∃ X, X = wr := ⟨_, rfl⟩
          have HNX := Nu.hid (HSIX.out.grown HROWR.out (by decide) (by decide) (by decide) hgr)
          have HAX := Nu.hid (HALL.out.kept hgr (types_apart17 HALL.out HROWR.out (by decide)))
          have HBX := Nu.hid (HBR.out.grown hgr HBR.out.size (fun q hq => by cases hq; have := HB6.out.size; omega))
          have hb9 := (HBEL.out.block _ hlt').trans HWB.out
          have hxw : X.heap[wA.heap.size]? = some (.cells #[.bool b, .slice so p sa, .slice sb q sc] 25 (0, 0)) := (hgr.block _ (lt_of_block hb9) (fun e => own_ne HROWR.out hb9 (by decide) e.symm)).trans hb9
          have HXW := Nu.hid hxw
          have HWX : Hid (CertAt X w9.heap.size (.agg #[.bool b, .slice so p sa, .slice sb q sc]) rc) := by
            obtain ⟨cw, h1, h2, h3⟩ := Cm.At.parsed (HCW.out.later HBEL.out) (Nat.le_trans hs9W hsr)
            have h4 := (h3.grown HROWR.out (by decide) (by decide) (by decide) hgr).cert rc.pl
            rw [h2] at h4
            rw [h1]
            exact h4
          have hsX : W.heap.size ≤ X.heap.size := Nat.le_trans hsr hgr.size
          rcases HAX.out.2 with ⟨-, h0⟩ | ⟨gc, cc, curC, rfl, hgcB, hhC, hlcC, -⟩
          · omega
          have hgcX := lt_of_block hhC
          clear hrow hgr hb9 hxw hhC HALL HSIX HROWR
          have HX0 := Nu.hid (Below.refl X.heap.size X)
          go_wp2
          go_loopw [15, 16, 142] (fun va ve c wr => ∃ k : Nat, k ≤ 6 ∧ c = .int .i64 k ∧ Below X.heap.size X wr ∧ wr.ownsRow X.heap.size 39 1 va (k * p) ((cs.take k).flatMap fun c => c.vs) ∧ wr.ownsRow X.heap.size 23 1 ve k ((cs.take k).map fun c => c.ev)) (fun _ _ c _ => 6 - (intOf c).toNat)
          case atStart => exact ⟨0, by omega, rfl, Below.refl _ _, by simpa using World.ownsRow_nil _ _ _ _, by simpa using World.ownsRow_nil _ _ _ _⟩
          case round =>
            obtain ⟨k, hk, rfl, hbel, hall, hedg⟩ := hrel
            by_cases hlt6 : k < 6
            · have hlti : (k : Int) < 6 := by omega
              have hk0 : (0 : Int) ≤ (k : Int) := by omega
              have HBEL2 := Nu.hid hbel
              have HALL := Nu.hid hall
              have HEDG := Nu.hid hedg
              obtain ⟨ct, hct⟩ : ∃ ct, cs[k]? = some ct := ⟨_, List.getElem?_eq_getElem (by have := HLK.out; omega)⟩
              have hat := (HNX.out.at' k ct hct).later hbel
              obtain ⟨f0, f1, f2⟩ := Cm.flat_at b cs k ct hct
              have hrowC := own_below17 HAX.out hbel
              have cc0 : wr.cell? ⟨gc, k * 3, none⟩ = some (.bool b) := by have := World.ownsRow.cells hrowC (g := gc) rfl _ _ f0; rwa [addrE] at this
              have cc1 : wr.cell? ⟨gc, k * 3 + 1, none⟩ = some ct.av := by have := World.ownsRow.cells hrowC (g := gc) rfl _ _ f1; rwa [addrE] at this
              have cc2 : wr.cell? ⟨gc, k * 3 + 2, none⟩ = some ct.ev := by have := World.ownsRow.cells hrowC (g := gc) rfl _ _ f2; rwa [addrE] at this
              have HAT := Nu.hid hat
              obtain ⟨xo, xc, hxo⟩ := row_shape hat.rows
              obtain ⟨yo, yc, hyo, -⟩ := hat.edges.form
              rw [HPQ.out.2.1] at hxo
              rw [HPQ.out.2.2] at hyo
              rw [hxo] at cc1
              rw [hyo] at cc2
              have HXO := Nu.hid hxo
              have HYO := Nu.hid hyo
              have HCT := Nu.hid hct
              clear hbel hall hedg hct hat f0 f1 f2 hrowC hxo hyo
              have hbz := box_below wr (.bool b) (.slice xo p xc) (.slice yo q yc)
              have hz6 := heap_alloc_new wr (.cells #[.bool b, .slice xo p xc, .slice yo q yc] 25)
              have HZ6 := Nu.hid hz6
              have HXZ := Nu.hid (HBEL2.out.trans (hbz.mono HBEL2.out.size))
              obtain ⟨u0, u1, u2, -⟩ := three_cells17 hz6
              obtain ⟨v0, v1, v2, -⟩ := three_cells17 ((HXZ.out.block _ (lt_of_block HXW.out)).trans HXW.out)
              have hsame : Calls Tryd.prog 7 #[.agg #[.bool b, .slice xo p xc, .slice yo q yc], .agg #[.bool b, .slice so p sa, .slice sb q sc]] (wr.alloc (.cells #[.bool b, .slice xo p xc, .slice yo q yc] 25)) fun e w' => e = .returned (.bool true) ∧ Below (wr.alloc (.cells #[.bool b, .slice xo p xc, .slice yo q yc] 25)).heap.size (wr.alloc (.cells #[.bool b, .slice xo p xc, .slice yo q yc] 25)) w' := by
                have h4 := (HAT.out.later hbz).cert rc.pl
                rw [HXO.out, HYO.out, HPQ.out.1] at h4
                obtain ⟨x1, x2, x3, x4, hs⟩ := h4.sees
                obtain ⟨y1, y2, y3, y4, hs'⟩ := (HWX.out.later HXZ.out).sees
                have e : (⟨b, rc.ar, rc.es⟩ : Ce.Cert) = rc := by rw [← HPQ.out.1]
                rw [e] at hs
                exact rsame17_yes hs hs' HSM.out.fits
              have HSAME := Nu.hid hsame
              have HBZ := Nu.hid hbz
              clear hbz hz6 hsame
              go_wp2_with (go_at_call 7; refine HSAME.out.mono ?_; rintro e w7 ⟨rfl, hb7⟩; have HR7 := Nu.hid (HBZ.out.trans (hb7.mono HBZ.out.size)); have hx7 := (hb7.block _ (lt_of_block HZ6.out)).trans HZ6.out; have HX7 := Nu.hid hx7; clear hb7 u0 u1 u2 v0 v1 v2 cc0 cc1 cc2; obtain ⟨u0, u1, u2, -⟩ := three_cells17 hx7; clear hx7 HSAME HBZ HXZ; refine Hid.out ?_)
              refine Nu.hid ?_
              have HALL7 := Nu.hid (own_below17 HALL.out HR7.out)
              have HAT7 := Nu.hid (HAT.out.later HR7.out)
              have HX7' := Nu.hid (HBEL2.out.trans (HR7.out.mono HBEL2.out.size))
              have hxr : RowsZ w7 ct.lo (.slice xo p xc) ct.vs rc.ar := by rw [← HXO.out]; exact HAT7.out.rows
              have HXR := Nu.hid hxr
              have hpp : p ≤ 1048576 := by rw [← HPQ.out.2.1]; exact HSM.out.ar
              have hkp : k * p + p ≤ 100000000 := by
                have : k * p ≤ 6 * p := Nat.mul_le_mul_right p hk
                omega
              clear hxr
              go_wp2_with (at_builtin; refine wpList_appR17 rfl _ _ rfl w7 X.heap.size _ (k * p) p _ ct.vs HALL7.out HXR.out HPQ.out.2.1 HX7'.out.size hkp rfl rfl ?_; intro v8 w8 hown8 hg8; refine Hid.out ?_)
              refine Nu.hid ?_
              have hx8 := (hg8.block _ (lt_of_block HX7.out) (fun e => own_ne HALL7.out HX7.out (by decide) e.symm)).trans HX7.out
              have hle8 := fun x hx => (World.ownsRow.lt HALL7.out x hx).1
              have HB8X := Nu.hid (HX7'.out.grown hg8 HX7'.out.size hle8)
              have HEDG8 := Nu.hid (World.ownsRow.kept (own_below17 HEDG.out HR7.out) hg8 (types_apart17 (own_below17 HEDG.out HR7.out) HALL7.out (by decide)))
              have HALL8 := Nu.hid hown8
              clear u0 u1 u2 hown8 hg8 hle8
              obtain ⟨u0, u1, u2, -⟩ := three_cells17 hx8
              clear hx8
              go_wp2_with (at_builtin; refine wpList_pushL17 rfl _ _ rfl w8 X.heap.size _ _ k yo q yc HEDG8.out HB8X.out.size (by omega) rfl rfl ?_; intro v9 w9' hown9 hg9 _; refine Hid.out ?_)
              refine Nu.hid ?_
              have hfin : Below X.heap.size X w9' ∧ w9'.ownsRow X.heap.size 39 1 v8 ((k + 1) * p) ((cs.take (k + 1)).flatMap fun c => c.vs) ∧ w9'.ownsRow X.heap.size 23 1 v9 (k + 1) ((cs.take (k + 1)).map fun c => c.ev) := by
                refine ⟨(HB8X.out.alloc HB8X.out.size _).grown hg9 (by have := HB8X.out.size; simp; omega) (fun x hx => (World.ownsRow.lt HEDG8.out x hx).1), ?_, ?_⟩
                · rw [Cm.take_vs HCT.out, Nat.succ_mul]
                  exact World.ownsRow.kept (World.ownsRow.alloc HALL8.out _) hg9 (types_apart17 HALL8.out HEDG8.out (by decide))
                · rw [Cm.take_ev HCT.out, HYO.out]
                  exact hown9
              have HFIN := Nu.hid hfin
              clear hfin hown9 hg9 u0 u1 u2
              go_wp2
              go_roundw
              case rel => exact ⟨k + 1, by omega, by go_num, HFIN.out.1, HFIN.out.2.1, HFIN.out.2.2⟩
              case measure => simp [intOf]; omega
            · obtain rfl : k = 6 := by omega
              obtain ⟨Y, rfl⟩ : ∃ Y, Y = wr := ⟨_, rfl⟩
              have htk : cs.take 6 = cs := List.take_of_length_le (by have := HLK.out; omega)
              rw [htk] at hall hedg
              have HNY := Nu.hid (HNX.out.later hbel)
              have HCY := Nu.hid (own_below17 HAX.out hbel)
              have HBY := Nu.hid (HBX.out.trans (hbel.mono HBX.out.size))
              have HALY := Nu.hid hall
              have HEDY := Nu.hid hedg
              have HBEL3 := Nu.hid hbel
              rcases HCY.out.2 with ⟨h', -⟩ | ⟨gc', cc', curC, e', -, hhC, -⟩
              · cases h'
              cases e'
              have HNO := Nu.hid (HNY.out.other hhC (by decide) (by decide) (by decide))
              have HHC := Nu.hid hhC
              rcases HEDY.out.2 with ⟨-, h'⟩ | ⟨gE, cE, curE, rfl, -, hhE, -⟩
              · omega
              have HNE := Nu.hid (HNY.out.other hhE (by decide) (by decide) (by decide))
              have HSX : Hid (∀ b, (Cm.SA cs b ∨ Cm.SE cs b) → b < X.heap.size) := fun b hb => HNX.out.lt hb
              clear hall hedg hbel HNX HAX HXW HWX hhC hhE
              have hpp : p ≤ 1048576 := by rw [← HPQ.out.2.1]; exact HSM.out.ar
              have hqq : q ≤ 4194304 := by rw [← HPQ.out.2.2]; exact HSM.out.es
              have HC0 := Nu.hid (Cm.Cw.start (p := p) (D := fun j t => j < 0 ∧ t < p) HNY.out HPQ.out.2.1 (fun j i h => by omega))
              go_wp2
              go_loopw [162] (fun c wr => ∃ k : Nat, k ≤ 6 ∧ c = .int .i64 k ∧ Cm.Cw Y cs p (fun j t => j < k ∧ t < p) wr) (fun c _ => 6 - (intOf c).toNat)
              case atStart => exact ⟨0, by omega, rfl, HC0.out⟩
              case round =>
                obtain ⟨k, hk, rfl, hcw⟩ := hrel
                obtain ⟨w0, rfl⟩ : ∃ w0, w0 = wr := ⟨_, rfl⟩
                have HCW' := Nu.hid hcw
                by_cases hlt6 : k < 6
                · have hlti : (k : Int) < 6 := by omega
                  have hk0 : (0 : Int) ≤ (k : Int) := by omega
                  obtain ⟨ct, hct⟩ : ∃ ct, cs[k]? = some ct := ⟨_, List.getElem?_eq_getElem (by have := HLK.out; omega)⟩
                  obtain ⟨f0, f1, f2⟩ := Cm.flat_at b cs k ct hct
                  have hrowC : w0.ownsRow W.heap.size 25 3 (.slice (some ⟨gc, 0, none⟩) 6 cc) 6 (Cm.flat b cs) := row_same HCY.out fun g hg _ hl => by cases hg; exact hcw.wrote.block _ hl HNO.out.1
                  have cc0 : w0.cell? ⟨gc, k * 3, none⟩ = some (.bool b) := by have := World.ownsRow.cells hrowC (g := gc) rfl _ _ f0; rwa [addrE] at this
                  have cc1 : w0.cell? ⟨gc, k * 3 + 1, none⟩ = some ct.av := by have := World.ownsRow.cells hrowC (g := gc) rfl _ _ f1; rwa [addrE] at this
                  have cc2 : w0.cell? ⟨gc, k * 3 + 2, none⟩ = some ct.ev := by have := World.ownsRow.cells hrowC (g := gc) rfl _ _ f2; rwa [addrE] at this
                  have hat := HNY.out.at' k ct hct
                  obtain ⟨xo, xc, hxo⟩ := row_shape hat.rows
                  obtain ⟨yo, yc, hyo, -⟩ := hat.edges.form
                  rw [HPQ.out.2.1] at hxo
                  rw [HPQ.out.2.2] at hyo
                  rw [hxo] at cc1
                  rw [hyo] at cc2
                  have HXO := Nu.hid hxo
                  have HCT := Nu.hid hct
                  have hz6 := heap_alloc_new w0 (.cells #[.bool b, .slice xo p xc, .slice yo q yc] 25)
                  obtain ⟨u0, u1, u2, -⟩ := three_cells17 hz6
                  have HZ6 := Nu.hid hz6
                  have HC1 := Nu.hid (HCW'.out.later (box_below w0 (.bool b) (.slice xo p xc) (.slice yo q yc)))
                  have hYr : Y.heap.size ≤ w0.heap.size := hcw.wrote.size
                  clear hcw hct f0 f1 f2 hrowC hat hxo hyo hz6
                  go_wp2
                  clear u0 u1 u2 cc0 cc1 cc2
                  go_loopw [170] (fun c wx => ∃ i : Nat, i ≤ p ∧ c = .int .i64 i ∧ Cm.Cw Y cs p (fun j t => (j < k ∧ t < p) ∨ (j = k ∧ t < i)) wx ∧ wx.heap[w0.heap.size]? = some (.cells #[.bool b, .slice xo p xc, .slice yo q yc] 25 (0, 0))) (fun c _ => p - (intOf c).toNat)
                  case atStart => exact ⟨0, Nat.zero_le _, rfl, HC1.out.mono (fun j c i _ h => by omega), HZ6.out⟩
                  case round =>
                    obtain ⟨i, hip, rfl, hcx, hbx⟩ := hrel
                    have HCX := Nu.hid hcx
                    have HBX2 := Nu.hid hbx
                    by_cases hil : i < p
                    · have hili : (i : Int) < (p : Int) := by omega
                      have hi0 : (0 : Int) ≤ (i : Int) := by omega
                      obtain ⟨xs, hxs⟩ := (hcx.later ((Below.refl wr.heap.size wr).alloc (Nat.le_refl _) (.cells #[.int .i64 (k : Int)] 3))).own k ct HCT.out
                      rw [HXO.out] at hxs
                      obtain ⟨ga, rfl⟩ : ∃ ga, xo = some ⟨ga, 0, none⟩ := by
                        rcases hxs.2 with ⟨-, h0⟩ | ⟨ga, _, _, e', -⟩
                        · omega
                        · cases e'; exact ⟨ga, rfl⟩
                      have hxl : xs.length = p := by simpa using hxs.1
                      obtain ⟨u, hu9⟩ : ∃ u, xs[i]? = some u := ⟨_, List.getElem?_eq_getElem (by omega)⟩
                      have cj : (wr.alloc (.cells #[.int .i64 (k : Int)] 3)).cell? ⟨ga, i, none⟩ = some u := by
                        have := World.ownsRow.cells hxs (g := ga) rfl i u hu9
                        rwa [addrE] at this
                      have fj := World.ownsRow.frozenAt hxs i
                      obtain ⟨u0, u1, u2, -⟩ := three_cells17 hbx
                      have HST := Nu.hid (Cm.Cw.step HNY.out hcx HCT.out HXO.out hil)
                      have hgY : ga < Y.heap.size := HNY.out.lt (.inl ⟨k, ct, HCT.out, by rw [HXO.out]; rfl⟩)
                      have hbx' := HBX2.out
                      have hbn : ((wr.alloc (.cells #[.int .i64 (k : Int)] 3)).setCell ⟨ga, i, none⟩ (.slice (some ⟨wr.heap.size, 0, none⟩) 1 1)).heap[w0.heap.size]? = some (.cells #[.bool b, .slice (some ⟨ga, 0, none⟩) p xc, .slice yo q yc] 25 (0, 0)) := by
                        rw [heap_setCell_other _ ⟨ga, i, none⟩ w0.heap.size _ (by dsimp only; omega), Below.heap_alloc _ _ _ (lt_of_block hbx)]
                        exact hbx
                      have HBN := Nu.hid hbn
                      clear hcx hbx hxs hxl hu9 hbx' hbn
                      go_wp2
                      go_roundw
                      case rel => exact ⟨i + 1, by omega, by go_num, HST.out.mono (fun j c t _ h => by omega), HBN.out⟩
                      case measure => simp [intOf]; omega
                    · have hd2 : ¬ ((i : Int) < (p : Int)) := by omega
                      obtain rfl : i = p := by omega
                      clear hcx hbx
                      go_wp2
                      go_roundw
                      case rel => exact ⟨k + 1, by omega, by go_num, HCX.out.mono (fun j c t _ h => by omega)⟩
                      case measure => simp [intOf]; omega
                · obtain rfl : k = 6 := by omega
                  obtain ⟨Z, rfl⟩ : ∃ Z, Z = w0 := ⟨_, rfl⟩
                  have HPZ := Nu.hid hcw
                  have hrowE : Z.ownsRow X.heap.size 23 1 (.slice (some ⟨gE, 0, none⟩) 6 cE) 6 (cs.map fun c => c.ev) := row_same HEDY.out fun g hg _ hl => by cases hg; exact hcw.wrote.block _ hl HNE.out.1
                  have HROWE := Nu.hid hrowE
                  have HAE := Nu.hid HNY.out.apartE
                  have hYZ : Y.heap.size ≤ Z.heap.size := hcw.wrote.size
                  have HD0 := Nu.hid (Cm.Dw.start (Z := Z) (q := q) (D := fun j t => j < 0 ∧ t < q) (fun j c hc => HNY.out.evkept hcw.wrote hc) HPQ.out.2.2 (fun j i h => by omega))
                  clear hcw hrowE HCW'
                  go_wp2
                  go_loopw [183] (fun c wr => ∃ k : Nat, k ≤ 6 ∧ c = .int .i64 k ∧ Cm.Dw Z cs q (fun j t => j < k ∧ t < q) wr) (fun c _ => 6 - (intOf c).toNat)
                  case atStart => exact ⟨0, by omega, rfl, HD0.out⟩
                  case round =>
                    obtain ⟨k, hk, rfl, hdw⟩ := hrel
                    obtain ⟨w0, rfl⟩ : ∃ w0, w0 = wr := ⟨_, rfl⟩
                    have HDW := Nu.hid hdw
                    by_cases hlt6 : k < 6
                    · have hlti : (k : Int) < 6 := by omega
                      have hk0 : (0 : Int) ≤ (k : Int) := by omega
                      have hwm : IntKind.i64.wrap (-(k : Int)) = -(k : Int) := by rw [IntKind.wrap_i64]; omega
                      obtain ⟨ct, hct⟩ : ∃ ct, cs[k]? = some ct := ⟨_, List.getElem?_eq_getElem (by have := HLK.out; omega)⟩
                      have hrw : w0.ownsRow X.heap.size 23 1 (.slice (some ⟨gE, 0, none⟩) 6 cE) 6 (cs.map fun c => c.ev) := row_same HROWE.out fun g hg _ hl => by cases hg; exact hdw.wrote.block _ hl HNE.out.2
                      have cx : w0.cell? ⟨gE, k, none⟩ = some ct.ev := by have := World.ownsRow.cells hrw (g := gE) rfl k ct.ev (by rw [List.getElem?_map, hct]; rfl); rwa [addrE] at this
                      obtain ⟨l0, hl0, hol0, -⟩ := hdw.own k ct hct
                      obtain ⟨yo, yc, hyo, -⟩ := hol0.form
                      rw [hl0] at hyo
                      rw [hyo] at cx
                      have HYO := Nu.hid hyo
                      have HCT := Nu.hid hct
                      clear hdw hct hrw hl0 hol0 hyo
                      go_wp2
                      clear cx
                      go_loopw [190] (fun c wx => ∃ i : Nat, i ≤ q ∧ c = .int .i64 i ∧ Cm.Dw Z cs q (fun j t => (j < k ∧ t < q) ∨ (j = k ∧ t < i)) wx) (fun c _ => q - (intOf c).toNat)
                      case atStart => exact ⟨0, Nat.zero_le _, rfl, HDW.out.mono (fun j c t _ _ h => by omega)⟩
                      case round =>
                        obtain ⟨i, hip, rfl, hdx⟩ := hrel
                        have HDX := Nu.hid hdx
                        by_cases hil : i < q
                        · have hili : (i : Int) < (q : Int) := by omega
                          have hi0 : (0 : Int) ≤ (i : Int) := by omega
                          obtain ⟨l1, hl1, hol1, -⟩ := hdx.own k ct HCT.out
                          obtain ⟨ge, rfl⟩ : ∃ ge, yo = some ⟨ge, 0, none⟩ := by
                            unfold OwnE at hol1
                            rw [HYO.out, hl1] at hol1
                            rcases hol1.2 with ⟨-, h0⟩ | ⟨ge, _, _, e', -⟩
                            · omega
                            · cases e'; exact ⟨ge, rfl⟩
                          obtain ⟨⟨y0, cy0⟩, fy0, ⟨y1, cy1⟩, fy1, hst⟩ := hdx.step HAE.out HCT.out HYO.out hil
                          have HST := Nu.hid hst
                          clear hdx hol1 hl1 hst
                          go_wp2
                          go_roundw
                          case rel => exact ⟨i + 1, by omega, by go_num, HST.out.mono (fun j c t _ _ h => by omega)⟩
                          case measure => simp [intOf]; omega
                        · have hd2 : ¬ ((i : Int) < (q : Int)) := by omega
                          obtain rfl : i = q := by omega
                          clear hdx
                          go_wp2
                          go_roundw
                          case rel => exact ⟨k + 1, by omega, by go_num, HDX.out.mono (fun j c t _ _ h => by omega)⟩
                          case measure => simp [intOf]; omega
                    · obtain rfl : k = 6 := by omega
                      obtain ⟨V, rfl⟩ : ∃ V, V = w0 := ⟨_, rfl⟩
                      have hall6 : ∀ (j : Nat) (c : Cm.Ct), cs[j]? = some c → j < 6 := fun j c hc => by have := (List.getElem?_eq_some_iff.1 hc).1; have := HLK.out; omega
                      have HE0 := Nu.hid (Cm.Ew.start (hdw.mono (E := fun _ _ => True) fun j c t hc ht _ => ⟨hall6 j c hc, ht⟩))
                      have HDV := Nu.hid hdw.wrote
                      have hZV : Z.heap.size ≤ V.heap.size := hdw.wrote.size
                      have hse : ∀ b, Cm.SE cs b → b < V.heap.size := fun b hb => by have := HNY.out.lt (.inr hb); omega
                      have HSE := Nu.hid hse
                      clear hdw hse HDW HD0 hall6
                      go_wp2
                      go_loopw [31, 204] (fun gv c wr => ∃ (k : Nat) (gs : List Value), k ≤ 6 ∧ c = .int .i64 k ∧ Cm.Ew V cs q gv gs k wr) (fun _ c _ => 6 - (intOf c).toNat)
                      case atStart => exact ⟨0, [], by omega, rfl, HE0.out⟩
                      case round =>
                        obtain ⟨k, gs, hk, rfl, hew⟩ := hrel
                        obtain ⟨w1, rfl⟩ : ∃ w1, w1 = wr := ⟨_, rfl⟩
                        have HEW := Nu.hid hew
                        by_cases hlt6 : k < 6
                        · have hlti : (k : Int) < 6 := by omega
                          have hk0 : (0 : Int) ≤ (k : Int) := by omega
                          obtain ⟨ct, hct⟩ : ∃ ct, cs[k]? = some ct := ⟨_, List.getElem?_eq_getElem (by have := HLK.out; omega)⟩
                          have hrw : w1.ownsRow X.heap.size 23 1 (.slice (some ⟨gE, 0, none⟩) 6 cE) 6 (cs.map fun c => c.ev) := row_same HROWE.out fun g hg _ hl => by cases hg; exact (hew.wrote.block _ (Nat.lt_of_lt_of_le hl hZV) HNE.out.2).trans (HDV.out.block _ hl HNE.out.2)
                          have cx : w1.cell? ⟨gE, k, none⟩ = some ct.ev := by have := World.ownsRow.cells hrw (g := gE) rfl k ct.ev (by rw [List.getElem?_map, hct]; rfl); rwa [addrE] at this
                          have hrow0 := hew.own k ct hct
                          obtain ⟨yo, yc, hyo, -⟩ := hrow0.form
                          rw [Cm.ovr_length] at hyo
                          rw [hyo] at cx
                          have hV1 : V.heap.size ≤ w1.heap.size := hew.wrote.size
                          have hlo : ct.lo ≤ w1.heap.size := by have hh := HNY.out.at' k ct hct; have h1 := hh.sz; have h2 := hh.le; omega
                          unfold OwnE at hrow0
                          rw [Cm.ovr_length, hyo] at hrow0
                          have HYO := Nu.hid hyo
                          have HCT := Nu.hid hct
                          have HR0 := Nu.hid hrow0
                          have HGT := Nu.hid hew.glt
                          have HGS := Nu.hid hew.gslt
                          clear hew hct hrw hrow0 hyo
                          go_wp2
                          clear cx
                          go_loopw [34, 35] (fun gw c wx => ∃ (i : Nat) (zo : Option Addr) (zc : Nat) (ys : List Value), i ≤ 16 ∧ c = .int .i64 i ∧ gw = .slice zo (q + i) zc ∧ wx.ownsRow ct.lo 41 2 (.slice zo (q + i) zc) (q + i) (flatE (Cm.ovr k q) ++ ys) ∧ ((zo = yo ∧ zc = yc) ∨ ∃ g', zo = some ⟨g', 0, none⟩ ∧ w1.heap.size ≤ g') ∧ Cm.Ew V cs q u31 gs k wx ∧ w1.heap.size ≤ wx.heap.size) (fun _ c _ => 16 - (intOf c).toNat)
                          case atStart => exact ⟨0, yo, yc, [], by omega, rfl, rfl, by rw [List.append_nil]; exact HR0.out, .inl ⟨rfl, rfl⟩, HEW.out, Nat.le_refl _⟩
                          case round =>
                            obtain ⟨i, zo, zc, ys, hi16, rfl, rfl, hown, hzo, hex, hsx⟩ := hrel
                            have HOWN := Nu.hid hown
                            have HZO := Nu.hid hzo
                            have HEX := Nu.hid hex
                            by_cases hi3 : i < 16
                            · have hi3i : (i : Int) < 16 := by omega
                              clear hown hzo hex
                              go_wp2_with (at_builtin; refine wpList_keepE17 rfl _ _ rfl ct.lo (q + i) zo zc _ 5 5 rfl (World.ownsRow.alloc HOWN.out _) ⟨wr.heap.size, 0, none⟩ rfl (new_two_e _ _ rfl _ _ _) (by omega) (by simp; omega) ?_; refine Hid.out ?_)
                              refine Nu.hid ?_
                              intro g2 c2 w2' hnew hold hgrow hblk hlt2
                              have hxrow : OwnE w2' ct.lo ct.ev (Cm.ovr k q) := by
                                rcases HZO.out with ⟨rfl, rfl⟩ | ⟨g', rfl, hg'⟩
                                · rcases HR0.out.2 with ⟨h', h0⟩ | ⟨gx, c', cur, e', _⟩
                                  · have hl0 : Cm.ovr k q = [] := List.length_eq_zero_iff.1 (by rw [Cm.ovr_length]; exact h0)
                                    rw [HYO.out, h', hl0]
                                    exact World.ownsRow_nil _ _ _ _
                                  · cases e'
                                    unfold OwnE
                                    rw [HYO.out, Cm.ovr_length]
                                    exact own_prefixE17 hold (by rw [flatE_length, Cm.ovr_length])
                                · refine row_same (HEX.out.own k ct HCT.out) fun b hb _ hl => ?_
                                  rw [hgrow.block b (by rw [World.size_alloc]; omega) (fun e => ?_)]
                                  · exact Below.heap_alloc wr _ b hl
                                  · have e3 : g' = b := by simpa [Value.ownBlock] using e.symm
                                    have := HSE.out b ⟨k, ct, HCT.out, hb⟩
                                    omega
                              have hbo2 := (HEX.out.later ((Below.refl wr.heap.size wr).alloc (Nat.le_refl _) (.cells #[.int .i64 5, .int .i64 5] 41))).after HAE.out HSE.out HCT.out hgrow hV1 HGT.out HGS.out (fun b hb => by
                                rcases HZO.out with ⟨rfl, rfl⟩ | ⟨g', rfl, hg'⟩
                                · left
                                  rw [HYO.out]
                                  cases zo
                                  · cases hb
                                  · exact hb
                                · have e3 : g' = b := by simpa [Value.ownBlock] using hb
                                  exact .inr (by omega)) hxrow
                              have hblk2 : ((some ⟨g2, 0, none⟩ : Option Addr) = yo ∧ c2 = yc) ∨ ∃ g', (some ⟨g2, 0, none⟩ : Option Addr) = some ⟨g', 0, none⟩ ∧ w1.heap.size ≤ g' := by
                                rcases hblk with ⟨hb1, rfl⟩ | hb1
                                · rcases HZO.out with ⟨rfl, rfl⟩ | ⟨g', rfl, hg'⟩
                                  · left
                                    rcases HOWN.out.2 with ⟨h', h0⟩ | ⟨gx, c', cur, e', _⟩
                                    · rw [h'] at hb1; cases hb1
                                    · cases e'
                                      have e3 : gx = g2 := by simpa [Value.ownBlock] using hb1
                                      subst e3
                                      exact ⟨rfl, rfl⟩
                                  · right
                                    have e3 : g' = g2 := by simpa [Value.ownBlock] using hb1
                                    subst e3
                                    exact ⟨g', rfl, hg'⟩
                                · right
                                  exact ⟨g2, rfl, by omega⟩
                              have HNEW : Hid (w2'.ownsRow ct.lo 41 2 (.slice (some ⟨g2, 0, none⟩) (q + (i + 1)) c2) (q + (i + 1)) (flatE (Cm.ovr k q) ++ (ys ++ [.int .i64 5, .int .i64 5]))) := Nu.hid (by first | exact hnew | (rw [← List.append_assoc]; exact hnew))
                              have HBO2 := Nu.hid hbo2
                              have HBK := Nu.hid hblk2
                              have hsz2 := hgrow.size
                              rw [World.size_alloc] at hsz2
                              clear hnew hold hgrow hblk hxrow hbo2 hblk2
                              go_wp2
                              go_roundw
                              case rel => exact ⟨_, _, _, _, _, _, _, _, _, _, ⟨i + 1, some ⟨g2, 0, none⟩, c2, ys ++ [.int .i64 5, .int .i64 5], by omega, by go_num, rfl, HNEW.out, HBK.out, HBO2.out, by omega⟩, rfl⟩
                              case measure => simp [intOf]; omega
                            · have hd3 : ¬ (i : Int) < 16 := by omega
                              obtain ⟨w5', rfl⟩ : ∃ w5', w5' = wr := ⟨wr, rfl⟩
                              have hr5 := hex.own k ct HCT.out
                              unfold OwnE at hr5
                              rw [Cm.ovr_length, HYO.out] at hr5
                              have HR5 := Nu.hid hr5
                              clear hown hzo hex hr5
                              have hex5 := HEX.out
                              have hgl5 := Nu.hid hex5.glt
                              clear hex5
                              go_wp2_with (at_builtin; refine wpList_keepE17 rfl _ _ rfl ct.lo q yo yc _ (k : Int) (-77) rfl (World.ownsRow.alloc HR5.out _) ⟨w5'.heap.size, 0, none⟩ rfl (new_two_e _ _ rfl _ _ _) (by omega) (by simp; omega) ?_; refine Hid.out ?_)
                              refine Nu.hid ?_
                              intro g2 c2 w2' hnew hold hgrow hblk hlt2
                              have hxrow : OwnE w2' ct.lo ct.ev (Cm.ovr k q) := by
                                unfold OwnE
                                rw [HYO.out, Cm.ovr_length]
                                exact hold
                              have hbo2 := (HEX.out.later ((Below.refl w5'.heap.size w5').alloc (Nat.le_refl _) (.cells #[.int .i64 (k : Int), .int .i64 (-77)] 41))).after HAE.out HSE.out HCT.out hgrow hV1 HGT.out HGS.out (fun b hb => .inl (by rw [HYO.out]; exact hb)) hxrow
                              have hy : OwnE w2' 0 (.slice (some ⟨g2, 0, none⟩) (q + 1) c2) (Cm.ovr k q ++ [((k : Int), -77)]) := by
                                have h5 : OwnE w2' ct.lo (.slice (some ⟨g2, 0, none⟩) (q + 1) c2) (Cm.ovr k q ++ [((k : Int), -77)]) := by
                                  unfold OwnE
                                  rw [List.length_append, flatE_snoc, Cm.ovr_length]
                                  exact hnew
                                exact h5.lower (Nat.zero_le _)
                              have hyb : ∀ b, (Value.slice (some ⟨g2, 0, none⟩) (q + 1) c2).ownBlock = some b → (∃ c, cs[k]? = some c ∧ c.ev.ownBlock = some b) ∨ V.heap.size ≤ b := fun b hb => by
                                have e3 : g2 = b := by simpa [Value.ownBlock] using hb
                                subst e3
                                rcases hblk with ⟨h1, _⟩ | h1
                                · exact .inl ⟨ct, HCT.out, by rw [HYO.out]; exact h1⟩
                                · exact .inr (by omega)
                              have HBO2 := Nu.hid hbo2
                              have HY := Nu.hid hy
                              have HYB := Nu.hid hyb
                              clear hnew hold hgrow hblk hxrow hbo2 hy hyb
                              go_wp2_with (at_builtin; refine wpList_pushL17 rfl _ _ rfl w2' V.heap.size _ gs k (some ⟨g2, 0, none⟩) (q + 1) c2 HBO2.out.gout HBO2.out.wrote.size (by omega) rfl rfl ?_; refine Hid.out ?_)
                              refine Nu.hid ?_
                              intro gv3 w3' hown3 hgrow3 _
                              have HB3' := Nu.hid (HBO2.out.next HY.out HYB.out hown3 hgrow3)
                              clear hown3 hgrow3
                              go_wp2
                              go_roundw
                              case rel => exact ⟨_, _, _, _, _, _, _, _, _, _, _, _, _, _, _, _, _, _, _, _, _, _, _, _, _, _, _, _, ⟨k + 1, _, by omega, by go_num, HB3'.out⟩, rfl⟩
                              case measure => simp [intOf]; omega
                        · obtain rfl : k = 6 := by omega
                          obtain ⟨U, rfl⟩ : ∃ U, U = w1 := ⟨_, rfl⟩
                          have HEU := Nu.hid hew
                          rcases hew.gout.2 with ⟨-, h'⟩ | ⟨gG, cG, curG, rfl, -, hhG, -⟩
                          · omega
                          have hre := row_same HROWE.out fun g hg _ hl => by cases hg; exact (hew.wrote.block _ (Nat.lt_of_lt_of_le hl hZV) HNE.out.2).trans (HDV.out.block _ hl HNE.out.2)
                          have HRE := Nu.hid hre
                          have HTL : Hid (Cm.Tl b p q gc cc cs _ rc.ar rc.es w W.heap.size X.heap.size Y Z V) := ⟨HLK.out, HNY.out, HSX.out, HPQ.out.2.1, HPQ.out.2.2, HCY.out, HNO.out, HPZ.out, HDV.out, HALY.out, fun j c hc => Nat.le_trans HBW.out.size (HBASE.out j c hc), HBY.out, hpp, HSM.out.row⟩
                          clear hew hhG HEW hre
                          repeat (first | exact Cm.rest20 HTL.out HEU.out HRE.out hqq | go_step)
set_option maxRecDepth 100000 in
/-- What the walk gives, for every argument and every world that holds the tables. -/
theorem contract (H : Type) (enc : TypeId × Value → H) (W : World) (base : Nat) (args : Array Value) (ds gs : List (DataW H)) (before : List MemPlace)
    (hval : ∀ (j : Nat) t v, Tryd.f3.params[j]? = some t → args[j]? = some v → Value.okWide Tryd.prog W .any base t v)
    (hW : DataW.Whole enc Tryd.prog Tryd.f3.params.toList Rows.certMemorySpec.vars false W args.toList ds gs before)
    (hsz : (DataW.weightsEach Tryd.prog (Tryd.f3.params.toList ++ (Rows.OpenSpec.upto Rows.certMemorySpec).bare.plain.varTypes Tryd.prog) (ds ++ gs)).all (· ≤ reachBytes) = true)
    (hk : Rows.uptoSmall H (ds ++ gs) = true)
    (hL : laidMet Tryd.prog listed W) :
    Calls Tryd.prog 3 args W fun e W' => ∃ v, e = .returned v ∧ Rows.certMemorySpec.post enc Tryd.prog Tryd.f3 false true false false W args v W' := by
  have hW' := hW
  obtain ⟨p, q, hA0, hV, rfl, hfz, hnd⟩ := hW
  have hA : DataW.TrodAll enc Tryd.prog W 0 (fun _ => true) true Tryd.f3.params.toList args.toList ds p := hA0
  rw [Tryd.params3] at hA hval hsz
  obtain ⟨v0, vs0, d0, ds0, p0, q0, hargs, rfl, rfl, h0, r0⟩ := trodAll_cons hA
  obtain ⟨v1, vs1, d1, ds1, p1, q1, rfl, rfl, rfl, h1, r1⟩ := trodAll_cons r0
  obtain ⟨rfl, rfl, rfl⟩ := trodAll_nil r1
  obtain rfl : args = #[v0, v1] := by cases args; simp_all
  obtain ⟨rfl, rfl⟩ := trodVars_none hV
  have k0 := h0
  have lt0 : ∀ x ∈ p0, x.block < W.heap.size := by obtain ⟨m, hm⟩ := k0; exact DataW.trod_lt m _ _ _ hm
  obtain ⟨p0, a0, c0, l0, b0, e0, s0, rfl, w0⟩ := cert_of_trod (j := 0) (hval 0 25 v0 rfl rfl) h0 hk rfl
  obtain ⟨a1, len1, cap1, rfl⟩ := okWide_slice Tryd.underlying26 (hval 1 26 v1 rfl rfl)
  have k1 := h1
  have lt1 : ∀ x ∈ p1, x.block < W.heap.size := by obtain ⟨m, hm⟩ := k1; exact DataW.trod_lt m _ _ _ hm
  obtain ⟨z1, w1⟩ := IsRow.of_trod (j := 1) Tryd.underlying26 Tryd.underlying5 cellsU8 bytesU8 h1 hsz rfl rfl
  have u1 : len1 ≤ 1048576 := IsRow.upto hk (j := 1) Tryd.underlying26 Tryd.underlying5 cellsU8 h1 rfl
  clear hA0
  refine (walk p0 a0 c0 l0 b0 e0 s0 a1 len1 cap1 z1 W w0 w1 u1 (table hL)).mono fun e W' ⟨he, bel⟩ => ?_
  subst he
  exact ⟨_, rfl, _, _, _, [], _, [], hW', trodAll_mk1 (shut_bool Tryd.underlying4 _), (trodAll_cons_mk (Below.trod laidOut (by kernel_rfl) (of_decide_eq_true (by kernel_rfl)) k0 bel lt0) (trodAll_cons_mk (Below.trod laidOut (by kernel_rfl) (of_decide_eq_true (by kernel_rfl)) k1 bel lt1) trodAll_mk0)), rfl, bel.frame _, fun h => by cases h⟩

theorem laid_met (os : Os) : laidMet Tryd.prog Rows.certMemoryUptoRow.laid ((laidWorld os).forCall (fun _ _ => 0) ⟨#[], #[.agg #[.bool false, .slice none 0 0, .slice none 0 0], .slice none 0 0], []⟩).memory :=
  laidMet_of_run' 100 (by kernel_rfl) (by kernel_rfl)
theorem reads (os : Os) {H : Type} (enc : TypeId × Value → H) : ∃ places, DataW.whole enc Tryd.prog ((laidWorld os).forCall (fun _ _ => 0) ⟨#[], #[.agg #[.bool false, .slice none 0 0, .slice none 0 0], .slice none 0 0], []⟩).memory Tryd.f3.params.toList Rows.certMemorySpec.vars false (#[.agg #[.bool false, .slice none 0 0, .slice none 0 0], .slice none 0 0] : Array Value).toList 8 = some ([.agg [.lit (.bool false), .nil, .nil], .nil], [], places) :=
  ⟨[], by kernel_rfl⟩

set_option maxRecDepth 100000 in
theorem lifted (os : Os) (started : os.Started) (H : Type) (enc : TypeId × Value → H) (F : Stop.Interp) :
    ReturnsInHanded {} Tryd.checked os 3 .any ((Rows.OpenSpec.upto Rows.certMemorySpec).preRow enc Tryd.prog Tryd.f3 Rows.certMemoryUptoRow.domain false Rows.certMemoryUptoRow.laid) (((Rows.OpenSpec.upto Rows.certMemorySpec).at F).post enc Tryd.prog Tryd.f3 false true false false) := by
  obtain ⟨places, hx⟩ := reads os enc
  refine returnsInHanded_of_row (C := Tryd.checked) (s := (Rows.OpenSpec.upto Rows.certMemorySpec)) own started (by kernel_rfl) Tryd.func3
    (witness_row_at (enc := enc) (C := Tryd.checked) false (laidWorld os) #[.agg #[.bool false, .slice none 0 0, .slice none 0 0], .slice none 0 0] rfl (by kernel_rfl) (by kernel_rfl) (by kernel_rfl)
      (OpenSpec.preRow_of_cond 8 hx (by kernel_rfl) (fun k hk => by cases hk; kernel_rfl) (by kernel_rfl) (laid_met os))) ?_
  intro W base args ds gs before hval hW _ hcond hsz hL _ _
  exact contract H enc W base args ds gs before hval hW hsz (hcond _ rfl) hL

theorem said : Rows.CertMemoryUptoSaid :=
  OpenClaim.holds_of_cond 3 Tryd.f3 rfl rfl rfl rfl rfl rfl rfl ⟨rfl, rfl, rfl, rfl, rfl⟩ rfl rfl rfl rfl rfl (by kernel_rfl) Tryd.func3 (by kernel_rfl)
    (of_decide_eq_true (by kernel_rfl)) (by unfold Func.isWrapper; first | (rw [if_pos (by decide +kernel)]; kernel_rfl) | (rw [if_neg (by decide +kernel)]; exact ⟨rfl, rfl⟩))
    (fun os started H enc _ F => by rw [OpenClaim.pre_eq_preRow]; exact lifted os started H enc F)

theorem plain (f : FuncId) (fn : Func) (hf : Tryd.pinned.checked.prog.funcNamed "tangram/tangramlaw17.CertMemory" = some f) (hfn : Tryd.pinned.checked.prog.funcs[f]? = some fn) :
    true = Tryd.pinned.checked.prog.looks [] ∧ ∀ (j : Nat) t, fn.params[j]? = some t → Tryd.pinned.checked.prog.wantsStandIn t = false := by
  obtain rfl : f = 3 := Option.some.inj ((show Tryd.prog.funcNamed "tangram/tangramlaw17.CertMemory" = some 3 by kernel_rfl).symm.trans hf) |>.symm
  obtain rfl : fn = Tryd.f3 := (Option.some.inj (Tryd.func3.symm.trans hfn)).symm
  refine ⟨by kernel_rfl, fun j t ht => ?_⟩
  rw [Tryd.params3] at ht
  obtain hx : t = 25 ∨ t = 26 := by simpa using Array.mem_of_getElem? ht
  rcases hx with rfl | rfl
  · exact (show Tryd.prog.wantsStandIn 25 = false by kernel_rfl)
  · exact (show Tryd.prog.wantsStandIn 26 = false by kernel_rfl)

theorem card : Rows.CertMemoryUptoCardSaid :=
  Claim7.holds_tied_plain_at .later [] _ _ _ _ said (fun _ h => by cases h) (by kernel_rfl) (fun _ h => by cases h) certMemoryUpto_row_tie rfl ⟨rfl, rfl⟩ (by kernel_rfl) rfl plain (by kernel_rfl)

end lawCeM

theorem certMemoryUpto_holds : Rows.CertMemoryUptoCardSaid := lawCeM.card

#print axioms certMemoryUpto_holds
end Go.Proofs.YtodlejemkihjnaaDoor
