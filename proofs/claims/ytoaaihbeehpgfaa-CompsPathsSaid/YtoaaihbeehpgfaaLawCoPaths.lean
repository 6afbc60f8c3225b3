/-
  Proved: for every graph and every edge the law CompsPaths answers true, and both read afterwards as before. No condition.
-/
import Derived.Test.YtoaaihbeehpgfaaCoFixed
import Derived.Test.YtoaaihbeehpgfaaCoReach
import Derived.Test.YtoaaihbeehpgfaaSiRValid
import Derived.Test.YtoaaihbeehpgfaaSiGin
namespace Go.Proofs.Ytoaaihbeehpgfaa
open Go.ChangeShapes Go.WideShapes Go.ChangeAt Go.RowKit
namespace lawPaths

theorem of_yes {f : FuncId} {args : Array Value} {m : Nat} {es : List (Int × Int)} {W : World} (hv : Si.Val m es) (h : Calls Try.prog f args W (OfPost m es W)) :
    Calls Try.prog f args W fun e w' => ∃ ao c, e = .returned (.tuple #[.slice ao m c, .int .i64 (Co.cnt m (Co.ofG m es) : Int), .int .i64 0]) ∧ IntsAt w' ao (Co.ints m (Co.num (Co.ofG m es))) ∧ Below W.heap.size W w' := h.mono (by
  rintro e w' ⟨⟨m', v, h1, h2, h3, h4⟩ | ⟨h1, _⟩, hb⟩
  · obtain rfl : m = m' := by omega
    obtain ⟨ao, c, hv, h5, -⟩ := h4.form
    rw [Co.ints_length] at hv
    subst hv
    exact ⟨ao, c, h3, h5, hb⟩
  · rw [Si.valid_iff.2 hv] at h1
    cases h1)

theorem of_no {f : FuncId} {args : Array Value} {n : Int} {es : List (Int × Int)} {W : World} (hv : Si.valid n es = false) (h : Calls Try.prog f args W (OfPost n es W)) :
    Calls Try.prog f args W fun e w' => e = .returned (.tuple #[.slice none 0 0, .int .i64 0, .int .i64 1]) ∧ Below W.heap.size W w' := h.mono (by
  rintro e w' ⟨⟨m', v, h1, h2, h3, h4⟩ | ⟨_, h1⟩, hb⟩
  · rw [Si.valid_iff.2 h2] at hv
    cases hv
  · exact ⟨h1, hb⟩)

set_option maxRecDepth 100000 in
set_option maxHeartbeats 16000000 in
theorem walk (n : Int) (ao : Option Addr) (ca : Nat) (es : List (Int × Int)) (p : Int × Int) (w : World) (_ : -9223372036854775808 ≤ n ∧ n ≤ 9223372036854775807) (hq : PairsIn w ao es.length ca es) (hle : es.length * 16 ≤ 140737488351232) (_ : In64 p) :
    Calls Try.prog 7 #[.agg #[.int .i64 n, .slice ao es.length ca], edgeVal p] w fun e w' => e = .returned (.bool true) ∧ Below w.heap.size w w' := by
  have h1 := fun W (hb : Below w.heap.size w W) => of_any n ao ca es W (hq.hat.later hb) (by omega)
  have h2 := fun W (hb : Below w.heap.size w W) => rvalid_any n ao ca es W (hq.hat.later hb) (by omega)
  unfold graphVal at h1 h2
  unfold edgeVal
  obtain ⟨pu, pv⟩ := p
  dsimp only
  have hb0 : Below w.heap.size w ((w.alloc (.cells #[.int .i64 n, .slice ao es.length ca] 49)).alloc (.cells #[.int .i64 pu, .int .i64 pv] 61)) := ((Below.refl _ _).alloc (Nat.le_refl _) _).alloc (by simp) _
  have HB0 := Nu.hid hb0
  have hG0 : ((w.alloc (.cells #[.int .i64 n, .slice ao es.length ca] 49)).alloc (.cells #[.int .i64 pu, .int .i64 pv] 61)).heap[w.heap.size]? = some (.cells #[.int .i64 n, .slice ao es.length ca] 49 (0, 0)) := by
    rw [Below.heap_alloc _ _ _ (by simp)]
    exact heap_alloc_new w _
  have hP0 : ((w.alloc (.cells #[.int .i64 n, .slice ao es.length ca] 49)).alloc (.cells #[.int .i64 pu, .int .i64 pv] 61)).heap[w.heap.size + 1]? = some (.cells #[.int .i64 pu, .int .i64 pv] 61 (0, 0)) := by
    have := heap_alloc_new (w.alloc (.cells #[.int .i64 n, .slice ao es.length ca] 49)) (.cells #[.int .i64 pu, .int .i64 pv] 61)
    simpa using this
  have HG0 := Nu.hid hG0
  have HP0 := Nu.hid hP0
  have HE := Nu.hid hq.hat
  clear hb0 hq hG0 hP0
  cases hv : Si.valid n es with
  | false =>
    have H1 := Nu.hid (fun W hb => of_no hv (h1 W hb))
    rw [hv] at h2
    have H2 := Nu.hid h2
    clear h1 h2 hv
    go_enter Try.func7, Try.ntmps7
    go_wp2_with (go_at_call 10; refine (fixed_any _).mono ?_; rintro e w1 ⟨rfl, hb⟩; refine Hid.out ?_)
    refine Nu.hid ?_
    have hG1 := (hb.block w.heap.size (by simp; omega)).trans HG0.out
    have HB1 := Nu.hid (HB0.out.trans (hb.mono HB0.out.size))
    have HG1 := Nu.hid hG1
    have hs1 := lt_of_block hG1
    obtain ⟨x0, x1, -⟩ := pair_cells hG1
    clear hb hG1
    go_wp2_with (go_at_call 21; refine (H1.out _ HB1.out).mono ?_; rintro e w2 ⟨rfl, hb⟩; refine Hid.out ?_)
    refine Nu.hid ?_
    have hG2 := (hb.block _ hs1).trans HG1.out
    have HB2 := Nu.hid (HB1.out.trans (hb.mono HB1.out.size))
    clear x0 x1
    obtain ⟨x0, x1, -⟩ := pair_cells hG2
    clear hb hG2 HG1 HB1
    go_wp2_with (go_at_call 26; refine (H2.out _ HB2.out).mono ?_; rintro e w3 ⟨rfl, hb⟩; have HB3 := Nu.hid (HB2.out.trans (hb.mono HB2.out.size)); clear hb)
    go_ret
    exact ⟨rfl, HB3.out⟩
  | true =>
    have hval := Si.valid_iff.1 hv
    have hhi := hval.hi
    have hfew := hval.few
    obtain ⟨m, rfl⟩ : ∃ m : Nat, n = (m : Int) := ⟨n.toNat, by have := hval.lo; omega⟩
    have H1 := Nu.hid (fun W hb => of_yes hval (h1 W hb))
    have HVAL := Nu.hid hval
    have hgen := Co.ofG_gen m es
    have hrch := fun (W : World) oo oc v (hb : Below w.heap.size w W) (ho : IntsAt W oo (Co.ints m (Co.num (Co.ofG m es)))) (hvm : v < m) => reaches_any m ao ca es oo oc v W (HE.out.later hb) hval ho hvm
    have HRC := Nu.hid hrch
    obtain ⟨M, hM⟩ : ∃ M, Co.ofG m es = M := ⟨_, rfl⟩
    rw [hM] at H1 HRC hgen
    have HM := Nu.hid hM
    have HNORM := Nu.hid hgen.norm
    have hcl := Co.cnt_le m M
    obtain ⟨c, hc⟩ : ∃ c, Co.cnt m M = c := ⟨_, rfl⟩
    rw [hc] at H1 hcl
    have HC := Nu.hid hc
    clear h1 h2 hv hval hrch hM hgen hc
    have jm : ((m : Int) != (m : Int)) = false := by simp
    go_enter Try.func7, Try.ntmps7
    go_wp2_with (go_at_call 10; refine (fixed_any _).mono ?_; rintro e w1 ⟨rfl, hb⟩; refine Hid.out ?_)
    refine Nu.hid ?_
    have hG1 := (hb.block w.heap.size (by simp; omega)).trans HG0.out
    have hP1 := (hb.block (w.heap.size + 1) (by simp)).trans HP0.out
    have HB1 := Nu.hid (HB0.out.trans (hb.mono HB0.out.size))
    have HG1 := Nu.hid hG1
    have HP1 := Nu.hid hP1
    have hs1 := lt_of_block hG1
    have hsp1 := lt_of_block hP1
    obtain ⟨x0, x1, -⟩ := pair_cells hG1
    clear hb hG1 hP1
    go_wp2_with (go_at_call 21; refine (H1.out _ HB1.out).mono ?_; rintro e w2 ⟨oo, oc, rfl, ho, hb⟩; have HO := Nu.hid ho; clear ho; refine Hid.out ?_)
    refine Nu.hid ?_
    have hG2 := (hb.block _ hs1).trans HG1.out
    have hP2 := (hb.block _ hsp1).trans HP1.out
    have HB2 := Nu.hid (HB1.out.trans (hb.mono HB1.out.size))
    have HG2 := Nu.hid hG2
    have HP2 := Nu.hid hP2
    have hs2 := lt_of_block hG2
    have hsp2 := lt_of_block hP2
    clear x0 x1
    obtain ⟨x0, x1, -⟩ := pair_cells hG2
    clear hb hG2 hP2 HG1 HP1 HB1 H1
    by_cases hbig : 2000 < m
    · have hbi : (2000 : Int) < (m : Int) := by omega
      go_wp2
      go_ret
      exact ⟨rfl, HB2.out⟩
    have hbi : ¬ (2000 : Int) < (m : Int) := by omega
    go_wp2
    clear x0 x1
    go_loopw [8, 52] (fun s cv wr => ∃ k : Nat, k ≤ m ∧ cv = .int .i64 (k : Int) ∧ s = .int .i64 (Co.cntTo (Co.fix M) k : Int) ∧ Below w2.heap.size w2 wr) (fun _ cv _ => m - (intOf cv).toNat)
    case atStart => exact ⟨0, Nat.zero_le _, rfl, rfl, Below.refl _ _⟩
    case round =>
      obtain ⟨k, hk, rfl, rfl, hb⟩ := hrel
      have HB := Nu.hid hb
      have hsz2 := HB2.out.size
      have hG := (hb.block _ hs2).trans HG2.out
      have hbw : Below w.heap.size w wr := HB2.out.trans (hb.mono hsz2)
      have HBW := Nu.hid hbw
      have hoR := HO.out.later hb
      have hkc := Co.cntTo_le (Co.fix M) k
      by_cases hkm : k < m
      · have hk0 : (0 : Int) ≤ (k : Int) := by omega
        have hk1 : (k : Int) < (m : Int) := by omega
        obtain ⟨x0, x1, -⟩ := pair_cells hG
        have hR := Nu.hid (HRC.out wr oo oc k hbw hoR hkm)
        obtain ⟨b, o, hoo, c0⟩ := hoR k _ (Co.ints_at hkm)
        have hnl := Co.num_lt HNORM.out hkm (HNORM.out.lt hkm)
        rw [Co.cnt_fix, HC.out] at hnl
        obtain ⟨z, hz⟩ : ∃ z, Co.num M k = z := ⟨_, rfl⟩
        obtain ⟨s, hs⟩ : ∃ s, Co.cntTo (Co.fix M) k = s := ⟨_, rfl⟩
        have hzs : (M k = k ∧ z = s ∧ Co.cntTo (Co.fix M) (k + 1) = s + 1) ∨ (z < s ∧ Co.cntTo (Co.fix M) (k + 1) = s) := by
          by_cases hf : M k = k
          · exact .inl ⟨hf, by rw [← hz, ← hs]; exact Co.num_self hf, by rw [Co.fix_succ_yes hf, hs]⟩
          · refine .inr ⟨?_, by rw [Co.fix_succ_no hf, hs]⟩
            have := Co.num_lt HNORM.out hkm (b := k) (by have := HNORM.out.le k hkm; omega)
            omega
        have HZS := Nu.hid hzs
        rw [hz] at c0 hnl
        rw [hs] at hkc ⊢
        have z0 : ¬ (z : Int) < 0 := by omega
        have z2 : ¬ (c : Int) ≤ (z : Int) := by omega
        have z3 : (z : Int) < (c : Int) := by omega
        subst hoo
        clear hb hG hbw hoR hz hs hzs
        rcases HZS.out with ⟨hf, he, hsu⟩ | ⟨he, hsu⟩
        · have HSU := Nu.hid hsu
          have z1 : ¬ (s : Int) < (z : Int) := by omega
          have z4 : ((z : Int) == (s : Int)) = true := by simp [he]
          clear hf hsu he
          go_wp2_with (go_at_call 27; refine hR.out.mono ?_; rintro e w3 ⟨rfl, hb3⟩; have HB3 := Nu.hid hb3; clear hb3; refine Hid.out ?_)
          refine Nu.hid ?_
          go_wp2
          go_roundw
          case rel => exact ⟨k + 1, by omega, by go_num, by rw [HSU.out]; go_num, HB.out.trans (HB3.out.mono HB.out.size)⟩
          case measure => simp [intOf]; omega
        · have HSU := Nu.hid hsu
          have z1 : ¬ (s : Int) < (z : Int) := by omega
          have z4 : ((z : Int) == (s : Int)) = false := by simp; omega
          clear hsu he
          go_wp2
          go_roundw
          case rel => exact ⟨k + 1, by omega, by go_num, by rw [HSU.out], HB.out⟩
          case measure => simp [intOf]; omega
      · have hd : ¬ ((k : Int) < (m : Int)) := by omega
        obtain rfl : k = m := by omega
        obtain ⟨w0, rfl⟩ : ∃ w0, w0 = wr := ⟨wr, rfl⟩
        rw [Co.cnt_fix, HC.out]
        have jc : ((c : Int) != (c : Int)) = false := by simp
        have hPp := (hb.block _ hsp2).trans HP2.out
        obtain ⟨x0, x1, -⟩ := pair_cells hG
        obtain ⟨y0, y1, -⟩ := pair_cells hPp
        have hsr := hb.size
        clear hb hbw hkc
        by_cases q1 : pu < 0
        · go_wp2
          go_ret
          exact ⟨rfl, HBW.out⟩
        by_cases q2 : pv ≤ pu
        · go_wp2
          go_ret
          exact ⟨rfl, HBW.out⟩
        by_cases q3 : (k : Int) ≤ pv
        · go_wp2
          go_ret
          exact ⟨rfl, HBW.out⟩
        obtain ⟨u, rfl⟩ : ∃ u : Nat, pu = (u : Int) := ⟨pu.toNat, by omega⟩
        obtain ⟨v, rfl⟩ : ∃ v : Nat, pv = (v : Int) := ⟨pv.toNat, by omega⟩
        have hum : u < k := by omega
        have hvm : v < k := by omega
        have HN := Nu.hid (new_yes k w0 (by omega))
        have HOR := Nu.hid hoR
        have HGr := Nu.hid hG
        have HPr := Nu.hid hPp
        have hsG := lt_of_block hG
        have hsP := lt_of_block hPp
        clear hoR hG hPp
        go_wp2_with (go_at_call 9; refine HN.out.mono ?_; rintro e w4 ⟨P, gp, gt, rfl, hs4, hb4⟩; have HS4 := Nu.hid hs4; have HB4 := Nu.hid hb4; clear hs4 hb4; refine Hid.out ?_)
        refine Nu.hid ?_
        obtain ⟨hs4, b1, b2, b3⟩ := HS4.out
        have HQ4 : Hid (SetsQ w4 (some (P, gp, gt)) k (fun x => x)) := hs4
        have hG4 := (HB4.out.block _ hsG).trans HGr.out
        clear x0 x1 y0 y1
        obtain ⟨x0, x1, -⟩ := pair_cells hG4
        clear hs4 HN HS4 hG4
        have hsw0 := HBW.out.size
        go_wp2
        clear x0 x1
        go_loopw [109] (fun cv wx => ∃ i : Nat, i ≤ es.length ∧ cv = .int .i64 (i : Int) ∧ SetsQ wx (some (P, gp, gt)) k (Co.ofG k (es.take i)) ∧ Below w0.heap.size w0 wx) (fun cv _ => es.length - (intOf cv).toNat)
        case atStart => exact ⟨0, Nat.zero_le _, rfl, HQ4.out, HB4.out⟩
        case round =>
          obtain ⟨i, hi, rfl, hQ, hb⟩ := hrel
          have HBR := Nu.hid hb
          by_cases hlt : i < es.length
          · have hlti : (i : Int) < (es.length : Int) := by omega
            have hi0 : (0 : Int) ≤ (i : Int) := by omega
            obtain ⟨q, hq⟩ : ∃ q, es[i]? = some q := ⟨_, List.getElem?_eq_getElem hlt⟩
            obtain ⟨b, o, rfl, c0, c1⟩ := (HE.out.later (HBW.out.trans (hb.mono hsw0))) i q hq
            have hbl : b < wr.heap.size := block_lt_of_cell c0
            have hb3 : Below w0.heap.size w0 (wr.alloc (.cells #[.int .i64 q.1, .int .i64 q.2] 61)) := hb.alloc hb.size _
            have hj := join_any (some (P, gp, gt)) k (Co.ofG k (es.take i)) q.1 q.2 _ (hQ.later ((Below.refl _ _).alloc (Nat.le_refl _) (.cells #[.int .i64 q.1, .int .i64 q.2] 61)))
            have hend : ∀ e w3, JoinPost (some (P, gp, gt)) k (Co.ofG k (es.take i)) q.1 q.2 (wr.alloc (.cells #[.int .i64 q.1, .int .i64 q.2] 61)) e w3 → (∃ t, e = .returned (.bool t)) ∧ SetsQ w3 (some (P, gp, gt)) k (Co.ofG k (es.take (i + 1))) ∧ Below w0.heap.size w0 w3 := by
              rintro e w3 ⟨h1, h2, h3⟩
              refine ⟨⟨_, h1⟩, ?_, hb3.trans (h3.below hb3.size ?_)⟩
              · rw [Si.take_snoc hq]
                unfold Co.ofG
                rw [Co.joins_snoc]
                exact h2
              · rintro x (rfl | rfl | rfl) <;> omega
            have HJ := Nu.hid (hj.mono hend)
            clear hj hend hQ hb hb3 hq
            unfold ptrQ at HJ
            go_wp2_with (go_at_call 15; refine HJ.out.mono ?_; rintro e w3 ⟨⟨t, rfl⟩, h2, h3⟩; have H2 := Nu.hid h2; have H3 := Nu.hid h3; clear h2 h3; refine Hid.out ?_)
            refine Nu.hid ?_
            go_wp2
            go_roundw
            case rel => exact ⟨i + 1, by omega, by go_num, H2.out, H3.out⟩
            case measure => simp [intOf]; omega
          · have hd2 : ¬ ((i : Int) < (es.length : Int)) := by omega
            rw [List.take_of_length_le (by omega), HM.out] at hQ
            have hPw := (hb.block _ hsP).trans HPr.out
            obtain ⟨y0, y1, -⟩ := pair_cells hPw
            have hj := join_any (some (P, gp, gt)) k M u v wr hQ
            unfold ptrQ at hj
            have hnum := Co.num_inj HNORM.out hum hvm
            have hap : Co.apart k M u v = decide (M u ≠ M v) := by
              unfold Co.apart
              rw [Bool.eq_iff_iff]
              simp only [decide_eq_true_eq, Int.toNat_natCast]
              exact ⟨fun h => h.2.2, fun h => ⟨⟨by omega, by omega⟩, ⟨by omega, by omega⟩, h⟩⟩
            have hcn : Co.cnt k (Co.joinI k M u v) + (if M u = M v then 0 else 1) = c := by
              by_cases e : M u = M v
              · have : Co.joinI k M u v = M := by unfold Co.joinI; rw [hap]; simp [e]
                rw [this, if_pos e, HC.out]
                rfl
              · have : Co.joinI k M u v = Co.join M u v := by unfold Co.joinI; rw [hap]; simp [e]
                rw [this, if_neg e, Co.cnt_join HNORM.out hum hvm e, HC.out]
            obtain ⟨c', hc'⟩ : ∃ c', Co.cnt k (Co.joinI k M u v) = c' := ⟨_, rfl⟩
            obtain ⟨t, ht⟩ : ∃ t, decide (M u ≠ M v) = t := ⟨_, rfl⟩
            have HT := Nu.hid ht
            have hend : ∀ e w6, JoinPost (some (P, gp, gt)) k M u v wr e w6 → e = .returned (.bool t) ∧ (∀ q, Calls Try.prog 11 #[.pointer (some ⟨P, 0, none⟩)] (w6.drewN q) fun e w' => e = .returned (.int .i64 (c' : Int)) ∧ w' = w6.drewN q) ∧ Below w0.heap.size w0 w6 := by
              rintro e w6 ⟨h1, h2, h3⟩
              refine ⟨by rw [h1, hap, ht], fun q => ?_, hb.trans (h3.below hb.size ?_)⟩
              · have := count_any _ _ _ _ (h2.is.drewN q)
                rw [hc'] at this
                exact this
              · rintro x (rfl | rfl | rfl) <;> omega
            have HJ := Nu.hid (hj.mono hend)
            rw [hc'] at hcn
            obtain ⟨nu, hnu⟩ : ∃ nu, Co.num M u = nu := ⟨_, rfl⟩
            obtain ⟨nv, hnv⟩ : ∃ nv, Co.num M v = nv := ⟨_, rfl⟩
            have HOF : Hid (∀ w6, Below w0.heap.size w0 w6 → ∃ b o, oo = some ⟨b, o, none⟩ ∧ w6.cell? ⟨b, o + u, none⟩ = some (.int .i64 (nu : Int)) ∧ w6.cell? ⟨b, o + v, none⟩ = some (.int .i64 (nv : Int)) ∧ w6.cell? ⟨w.heap.size + 1, 0, none⟩ = some (.int .i64 (u : Int)) ∧ w6.cell? ⟨w.heap.size + 1, 1, none⟩ = some (.int .i64 (v : Int))) := by
              intro w6 hb6
              have ho6 := HOR.out.later hb6
              obtain ⟨b, o, e1, k1⟩ := ho6 u _ (Co.ints_at hum)
              obtain ⟨b', o', e2, k2⟩ := ho6 v _ (Co.ints_at hvm)
              rw [e1] at e2
              cases e2
              rw [hnu] at k1
              rw [hnv] at k2
              obtain ⟨z0, z1, -⟩ := pair_cells ((hb6.block _ hsP).trans HPr.out)
              exact ⟨b, o, e1, k1, k2, z0, z1⟩
            rw [hnu, hnv] at hnum
            have HNUM := Nu.hid hnum
            have HCN := Nu.hid hcn
            clear hQ hb hj hap hc' hend hnu hnv hPw hnum hcn ht
            go_wp2_with (go_at_call 15; refine HJ.out.mono ?_; rintro e w6 ⟨rfl, h2, h3⟩; have H2 := Nu.hid h2; have H3 := Nu.hid h3; clear h2 h3; refine Hid.out ?_)
            refine Nu.hid ?_
            clear y0 y1
            obtain ⟨b, o, hoo, k1, k2, y0, y1⟩ := HOF.out w6 H3.out
            subst hoo
            have u0 : (0 : Int) ≤ (u : Int) := by omega
            have u1 : (u : Int) < (k : Int) := by omega
            have v0 : (0 : Int) ≤ (v : Int) := by omega
            have v1 : (v : Int) < (k : Int) := by omega
            have hcn := HCN.out
            have hnn := HNUM.out
            clear HJ HOF
            cases t with
            | false =>
              have e : M u = M v := Decidable.byContradiction (of_decide_eq_false HT.out)
              rw [if_pos e] at hcn
              have t1 : ((nu : Int) != (nv : Int)) = false := by simp [hnn.2 e]
              have t2 : ((c' : Int) == (c : Int) - 1) = false := by simp; omega
              have t3 : ((c' : Int) == (c : Int)) = true := by simp; omega
              clear hcn hnn e
              go_wp2_with fail
              go_quiet ((go_at_call 11; exact Calls.quiet_of_same (H2.out _)))
              go_wp2
              go_ret
              exact ⟨rfl, HBW.out.trans ((below_drewN H3.out _).mono hsw0)⟩
            | true =>
              have e : M u ≠ M v := of_decide_eq_true HT.out
              rw [if_neg e] at hcn
              have t1 : ((nu : Int) != (nv : Int)) = true := by
                simp
                intro h
                exact e (hnn.1 (by omega))
              have t2 : ((c' : Int) == (c : Int) - 1) = true := by simp; omega
              have t3 : ((c' : Int) == (c : Int)) = false := by simp; omega
              clear hcn hnn e
              go_wp2_with fail
              go_quiet ((go_at_call 11; exact Calls.quiet_of_same (H2.out _)))
              go_wp2
              go_ret
              exact ⟨rfl, HBW.out.trans ((below_drewN H3.out _).mono hsw0)⟩

set_option maxRecDepth 100000 in
/-- What the walk gives, for every argument and every world. -/
theorem contract (H : Type) (enc : TypeId × Value → H) (W : World) (base : Nat) (args : Array Value) (ds gs : List (DataW H)) (before : List MemPlace)
    (hval : ∀ (j : Nat) t v, Try.f7.params[j]? = some t → args[j]? = some v → Value.okWide Try.prog W .any base t v)
    (hW : DataW.Whole enc Try.prog Try.f7.params.toList Rows.compsPathsSpec.vars false W args.toList ds gs before)
    (hsz : (DataW.weightsEach Try.prog (Try.f7.params.toList ++ (OpenSpec.ofChange Rows.compsPathsSpec).bare.plain.varTypes Try.prog) (ds ++ gs)).all (· ≤ reachBytes) = true)
    :
    Calls Try.prog 7 args W fun e W' => ∃ v, e = .returned v ∧ Rows.compsPathsSpec.post enc Try.prog Try.f7 false true false false W args v W' := by
  have hW' := hW
  obtain ⟨p, q, hA0, hV, rfl, hfz, hnd⟩ := hW
  have hA : DataW.TrodAll enc Try.prog W 0 (fun _ => true) true Try.f7.params.toList args.toList ds p := hA0
  rw [Try.params7] at hA hval hsz
  obtain ⟨v0, vs0, d0, ds0, p0, q0, hargs, rfl, rfl, h0, r0⟩ := trodAll_cons hA
  obtain ⟨v1, vs1, d1, ds1, p1, q1, rfl, rfl, rfl, h1, r1⟩ := trodAll_cons r0
  obtain ⟨rfl, rfl, rfl⟩ := trodAll_nil r1
  obtain rfl : args = #[v0, v1] := by cases args; simp_all
  obtain ⟨rfl, rfl⟩ := trodVars_none hV
  have k0 := h0
  have lt0 : ∀ x ∈ p0, x.block < W.heap.size := by obtain ⟨m, hm⟩ := k0; exact DataW.trod_lt m _ _ _ hm
  obtain ⟨n0, a0, cap0, q0, rfl, x0, w0, u0⟩ := graph_of_trod (j := 0) (hval 0 49 v0 rfl rfl) h0 hsz rfl rfl
  have k1 := h1
  have lt1 : ∀ x ∈ p1, x.block < W.heap.size := by obtain ⟨m, hm⟩ := k1; exact DataW.trod_lt m _ _ _ hm
  obtain ⟨q1, rfl, w1⟩ := edge_of_trod (hval 1 61 v1 rfl rfl) h1
  clear hA0
  refine (walk n0 a0 cap0 q0 q1 W x0 w0 u0 w1).mono fun e W' ⟨he, bel⟩ => ?_
  subst he
  exact ⟨_, rfl, _, _, _, [], _, [], hW', trodAll_mk1 (shut_bool Try.underlying4 _), (trodAll_cons_mk (Below.trod laidOut (by kernel_rfl) (of_decide_eq_true (by kernel_rfl)) k0 bel lt0) (trodAll_cons_mk (Below.trod laidOut (by kernel_rfl) (of_decide_eq_true (by kernel_rfl)) k1 bel lt1) trodAll_mk0)), rfl, bel.frame _, fun h => by cases h⟩

theorem laid_met (os : Os) : laidMet Try.prog Rows.compsPathsRow.laid ((settled os).forCall (fun _ _ => 0) ⟨#[], #[.agg #[.int .i64 0, .slice none 0 0], .agg #[.int .i64 0, .int .i64 0]], []⟩).memory :=
  laidMet_of_run' 100 (by kernel_rfl) (by kernel_rfl)
theorem reads (os : Os) {H : Type} (enc : TypeId × Value → H) : ∃ places, DataW.whole enc Try.prog ((settled os).forCall (fun _ _ => 0) ⟨#[], #[.agg #[.int .i64 0, .slice none 0 0], .agg #[.int .i64 0, .int .i64 0]], []⟩).memory Try.f7.params.toList Rows.compsPathsSpec.vars false (#[.agg #[.int .i64 0, .slice none 0 0], .agg #[.int .i64 0, .int .i64 0]] : Array Value).toList 8 = some ([.agg [.lit (.int .i64 0), .nil], .agg [.lit (.int .i64 0), .lit (.int .i64 0)]], [], places) :=
  ⟨[], by kernel_rfl⟩

set_option maxRecDepth 100000 in
theorem lifted (os : Os) (started : os.Started) (H : Type) (enc : TypeId × Value → H) (F : Stop.Interp) :
    ReturnsInHanded {} Try.checked os 7 .any ((OpenSpec.ofChange Rows.compsPathsSpec).preRow enc Try.prog Try.f7 Rows.compsPathsRow.domain false Rows.compsPathsRow.laid) (((OpenSpec.ofChange Rows.compsPathsSpec).at F).post enc Try.prog Try.f7 false true false false) := by
  obtain ⟨places, hx⟩ := reads os enc
  refine returnsInHanded_of_row (C := Try.checked) (s := (OpenSpec.ofChange Rows.compsPathsSpec)) own started (by kernel_rfl) Try.func7
    (witness_row_at (enc := enc) (C := Try.checked) false (settled os) #[.agg #[.int .i64 0, .slice none 0 0], .agg #[.int .i64 0, .int .i64 0]] rfl (by kernel_rfl) (by kernel_rfl) (by kernel_rfl)
      (OpenSpec.preRow_of_cond 8 hx (by kernel_rfl) (fun k hk => by cases hk) (by kernel_rfl) (laid_met os))) ?_
  intro W base args ds gs before hval hW _ _ hsz _ _ _
  exact contract H enc W base args ds gs before hval hW hsz 

theorem said : Rows.CompsPathsSaid :=
  OpenClaim.holds_of_cond 7 Try.f7 rfl rfl rfl rfl rfl rfl rfl ⟨rfl, rfl, rfl, rfl, rfl⟩ rfl rfl rfl rfl rfl (by kernel_rfl) Try.func7 (by kernel_rfl)
    (of_decide_eq_true (by kernel_rfl)) (by unfold Func.isWrapper; first | (rw [if_pos (by decide +kernel)]; kernel_rfl) | (rw [if_neg (by decide +kernel)]; exact ⟨rfl, rfl⟩))
    (fun os started H enc _ F => by rw [OpenClaim.pre_eq_preRow]; exact lifted os started H enc F)

end lawPaths

theorem compsPaths_holds : Rows.CompsPathsSaid := lawPaths.said

#print axioms compsPaths_holds
end Go.Proofs.Ytoaaihbeehpgfaa
