import Derived.Test.YtfkmldopfhdbkaaMg14
import Derived.Test.YtfkmldopfhdbkaaMg09
import Derived.Deep.RegionHeld3
import Derived.Test.YtfkmldopfhdbkaaMg13
/-
  Faces, the program: the counts of the components.
-/
namespace Go.Proofs.Ytfkmldopfhdbkaa
open Go.RowKit Go.Maps

theorem IntsAt.low {W U : World} {b : Nat} {ao : Option Addr} {l : List Int} (h : IntsAt W ao l) (hb : ∀ x, ao = some x → x.block < b) (hB : Below b W U) : IntsAt U ao l := fun j x hj => by
  obtain ⟨k, o, e, hc⟩ := h j x hj
  refine ⟨k, o, e, ?_⟩
  have := hb _ e
  rw [← hc]
  simp only [World.cell?]
  rw [hB.block k this]

theorem make_hint (c : Int) (W : World) : (Instr.makeMap 66 (some (.int .i64 c))).run Try.prog W = .ok (.map (some W.heap.size)) (W.alloc (.map #[] 0)) := by
  simp [Instr.makeMap, run_underlying Try.underlying66, asInt, asIntOf, Result.andThen]

theorem PM.made (W : World) : PM (W.alloc (.map #[] 0)) W.heap.size 0 (fun _ => false) (fun _ => 0) (fun _ => 0) (fun _ => 0) := by
  refine ⟨.map [], World.ownsMap_made W _ _ _, fun j => rfl, fun kl => ?_⟩
  constructor
  · intro h; cases h
  · rintro ⟨j, _, h⟩; cases h

namespace Fa
open Co
theorem upd_cnt (F : Nat → Nat) (k : Nat) : (Co.upd (fun j => cntTo (fun v => decide (F v = j)) k) (F k) (cntTo (fun v => decide (F v = F k)) k + 1)) = fun j => cntTo (fun v => decide (F v = j)) (k + 1) := by
  funext j
  show _ = cntTo (fun v => decide (F v = j)) k + if decide (F k = j) = true then 1 else 0
  by_cases e : j = F k
  · rw [e, Co.upd_same]
    simp
  · rw [Co.upd_other _ e, if_neg]
    · rfl
    · simp
      exact fun h => e h.symm
theorem upd_none (x : Nat → Nat) (j : Nat) : Co.upd x j (x j + 0) = x := by
  funext i
  by_cases e : i = j
  · rw [e, Co.upd_same]
    rfl
  · rw [Co.upd_other _ e]
theorem updB_same' {hs : Nat → Bool} {j : Nat} (h : hs j = true) : Co.updB hs j true = hs := by
  funext i
  by_cases e : i = j
  · rw [e, Co.updB_same, h]
  · rw [Co.updB_other _ e]
end Fa

/-- What partsOf answers. -/
def PartsP (N : Nat) (es : List (Int × Int)) (fs : List (List Nat)) (w : World) (e : Ending) (w' : World) : Prop :=
  ∃ b n, e = .returned (.map (some b)) ∧ w.heap.size ≤ b ∧ n ≤ 13631488 ∧ PM w' b n (fun j => decide (j < Co.cnt N (Fa.cp N es))) (fun j => Fa.cV N es j N) (fun j => Fa.cE N es j es.length) (fun j => Fa.zF N es fs j fs.length) ∧ Below w.heap.size w w'

set_option maxRecDepth 100000 in
set_option maxHeartbeats 16000000 in
theorem partsOf_any (N : Nat) (ao : Option Addr) (ca : Nat) (es : List (Int × Int)) (fo : Option Addr) (fc K : Nat) (fs : List (List Nat)) (w : World) (he : EdgesAt w ao es) (hv : Si.Val N es) (hf : RwsAt w fo (fs.map Fa.zl)) (hK : fs.length = K) (hKb : K ≤ 8388608) (hne : ∀ l ∈ fs, l ≠ [] ∧ Fa.hd l < 2 * es.length) :
    Calls Try.prog 34 #[graphVal (N : Int) ao es.length ca, .slice fo K fc] w (PartsP N es fs w) := by
  have hfew := hv.few
  have hhi := hv.hi
  have hn := (Fa.cp_gen (N := N) (es := es)).norm
  have hb0 : Below w.heap.size w (w.alloc (.cells #[.int .i64 (N : Int), .slice ao es.length ca] 24)) := (Below.refl _ _).alloc (Nat.le_refl _) _
  have HOF := Nu.hid (of_any (N : Int) ao ca es _ (he.later hb0) (by omega))
  have HBX := Nu.hid (heap_alloc_new w (.cells #[.int .i64 (N : Int), .slice ao es.length ca] 24))
  have HB0 := Nu.hid hb0
  have HE := Nu.hid he
  have HV := Nu.hid hv
  have HF := Nu.hid hf
  have HN := Nu.hid hn
  have HNE := Nu.hid hne
  have HKK := Nu.hid hK
  have hmk := make_hint
  unfold graphVal at HOF ⊢
  clear he hf hb0 hn hne hv hK
  go_enter Try.func34, Try.ntmps34
  go_wp2_with (go_at_call 23; refine HOF.out.mono ?_; intro e w1 hp; obtain ⟨⟨m1, ov, hmn, -, rfl, hov⟩ | ⟨hc, -⟩, hb1⟩ := hp <;> refine Hid.out ?_)
  all_goals (first | (exact absurd (Si.valid_iff.2 HV.out) (by rw [hc]; simp)) | skip)
  refine Nu.hid ?_
  have hm1 : m1 = N := by omega
  subst hm1
  obtain ⟨oo, oc, hoe, hoa, hob⟩ := hov.form
  have hol : (Co.ints m1 (Co.num (Co.ofG m1 es))).length = m1 := by simp [Co.ints]
  rw [hol] at hoe
  subst hoe
  have hobx : w1.heap[w.heap.size]? = some (.cells #[.int .i64 (m1 : Int), .slice ao es.length ca] 24 (0, 0)) := (hb1.block _ (lt_of_block HBX.out)).trans HBX.out
  have HBW1 := Nu.hid (HB0.out.trans (hb1.mono HB0.out.size))
  obtain ⟨W2, hW2⟩ : ∃ W2, W2 = w1.alloc (.map #[] 0) := ⟨_, rfl⟩
  have hb2 : Below w1.heap.size w1 W2 := by rw [hW2]; exact (Below.refl _ _).alloc (Nat.le_refl _) _
  have hs2 : w1.heap.size < W2.heap.size := by rw [hW2]; simp
  have hs1 := HBW1.out.size
  have HPM0 : Hid (PM W2 w1.heap.size 0 (fun _ => false) (fun _ => 0) (fun _ => 0) (fun _ => 0)) := by rw [hW2]; exact PM.made w1
  have HBW2 := Nu.hid (HBW1.out.trans (hb2.mono HBW1.out.size))
  -- what stands below the map
  have HLOW : Hid (∀ U, Below w1.heap.size W2 U → IntsAt U oo (Co.ints m1 (Co.num (Fa.cp m1 es))) ∧ U.heap[w.heap.size]? = some (.cells #[.int .i64 (m1 : Int), .slice ao es.length ca] 24 (0, 0)) ∧ Below w.heap.size w U) := fun U hU => by
    have h2 := hb2.trans hU
    refine ⟨hoa.low (fun x hx => (hob x hx).2) h2, (h2.block _ (lt_of_block hobx)).trans hobx, ?_⟩
    exact HBW1.out.trans (h2.mono hs1)
  have HW2 := Nu.hid hW2
  clear hov hoa hob hb1 hobx hb2 hmn hol
  go_wp2
  rw [← HW2.out]
  clear hmk hW2
  go_loopw [25] (fun c wr => ∃ (k n : Nat), k ≤ m1 ∧ n ≤ k ∧ c = .int .i64 (k : Int) ∧ PM wr w1.heap.size n (fun j => decide (0 < Fa.cV m1 es j k)) (fun j => Fa.cV m1 es j k) (fun _ => 0) (fun _ => 0) ∧ Below w1.heap.size W2 wr) (fun c _ => m1 - (intOf c).toNat)
  case atStart => exact ⟨0, 0, Nat.zero_le _, Nat.zero_le _, rfl, by simpa [Fa.cV, Co.cntTo] using HPM0.out, Below.refl _ _⟩
  case round =>
    obtain ⟨k, n, hk, hnk, rfl, hP, hb⟩ := hrel
    obtain ⟨W0, rfl⟩ : ∃ W0, W0 = wr := ⟨_, rfl⟩
    obtain ⟨hint, hbox, hbw⟩ := HLOW.out W0 hb
    have HP := Nu.hid hP
    have HB := Nu.hid hb
    have hwk : IntKind.i64.wrap ((k : Int) + 1) = (k : Int) + 1 := by rw [IntKind.wrap_i64]; omega
    by_cases hlt : k < m1
    · have hlti : (k : Int) < (m1 : Int) := by omega
      have hk0 : (0 : Int) ≤ (k : Int) := by omega
      have hat : (Co.ints m1 (Co.num (Fa.cp m1 es)))[k]? = some (Co.num (Fa.cp m1 es) k : Int) := by simp [Co.ints, hlt]
      obtain ⟨b, o, rfl, hc⟩ := hint k _ hat
      have hnl := Fa.num_lt HN.out hlt
      have hcl := Co.cntTo_le (Co.fix (Fa.cp m1 es)) m1
      have hxl : Fa.cV m1 es (Co.num (Fa.cp m1 es) k) k ≤ k := Co.cntTo_le _ _
      have HADD := Nu.hid (add_any w1.heap.size n _ _ _ _ (Co.num (Fa.cp m1 es) k) 1 0 0 W0 hP (by omega) (by omega) (by omega) (by omega) (by omega))
      have HU : Hid (Co.upd (fun j => Fa.cV m1 es j k) (Co.num (Fa.cp m1 es) k) (Fa.cV m1 es (Co.num (Fa.cp m1 es) k) k + 1) = fun j => Fa.cV m1 es j (k + 1)) := Fa.upd_cnt (Co.num (Fa.cp m1 es)) k
      have HH : Hid (Co.updB (fun j => decide (0 < Fa.cV m1 es j k)) (Co.num (Fa.cp m1 es) k) true = fun j => decide (0 < Fa.cV m1 es j (k + 1))) := by
        funext j
        have e1 : Fa.cV m1 es j (k + 1) = Fa.cV m1 es j k + if decide (Co.num (Fa.cp m1 es) k = j) = true then 1 else 0 := rfl
        by_cases e : j = Co.num (Fa.cp m1 es) k
        · rw [e, Co.updB_same, ← e, e1, ← e]
          simp
        · rw [Co.updB_other _ e, e1, if_neg (by simp; exact fun h => e h.symm)]
          rfl
      obtain ⟨q, hq⟩ : ∃ q, q = Co.num (Fa.cp m1 es) k := ⟨_, rfl⟩
      rw [← hq] at hc HADD HU HH
      clear hP hint hbox hbw hat hnl hcl hxl hq hb
      go_wp2_with (go_at_call 51; refine HADD.out.mono ?_; rintro e w3 ⟨rfl, hp3, hw3⟩; refine Hid.out ?_)
      refine Nu.hid ?_
      have HP3 : Hid (PM w3 w1.heap.size (n + 1) (fun j => decide (0 < Fa.cV m1 es j (k + 1))) (fun j => Fa.cV m1 es j (k + 1)) (fun _ => 0) (fun _ => 0)) := by
        have h3 := hp3
        rw [HU.out, HH.out, Fa.upd_none (fun _ => 0) q] at h3
        exact h3
      have HB3 : Hid (Below w1.heap.size W2 w3) := HB.out.trans (hw3.below (by have := HB.out.size; omega) (fun k hk => by omega))
      clear hp3 hw3
      go_wp2
      go_roundw
      case rel => exact ⟨k + 1, n + 1, by omega, by omega, by go_num, HP3.out, HB3.out⟩
      case measure => simp [intOf]; omega
    · have hd : ¬ (k : Int) < (m1 : Int) := by omega
      have hkm : k = m1 := by omega
      subst hkm
      have HS : Hid ((fun j => decide (0 < Fa.cV k es j k)) = fun j => decide (j < Co.cnt k (Fa.cp k es))) := by
        funext j
        rw [Bool.eq_iff_iff, decide_eq_true_iff, decide_eq_true_iff]
        exact Fa.cV_pos
      rw [HS.out] at hP
      have HP1 := Nu.hid hP
      obtain ⟨x0, x1, -⟩ := pair_cells hbox
      clear hP hint hbox hbw hb
      go_wp2
      clear x0 x1
      go_loopw [37] (fun c wr => ∃ (i n : Nat), i ≤ es.length ∧ n ≤ k + i ∧ c = .int .i64 (i : Int) ∧ PM wr w1.heap.size n (fun j => decide (j < Co.cnt k (Fa.cp k es))) (fun j => Fa.cV k es j k) (fun j => Fa.cE k es j i) (fun _ => 0) ∧ Below w1.heap.size W2 wr) (fun c _ => es.length - (intOf c).toNat)
      case atStart => exact ⟨0, n, Nat.zero_le _, by omega, rfl, by simpa [Fa.cE, Co.cntTo] using HP1.out, HB.out⟩
      case round =>
        obtain ⟨i, n, hi, hni, rfl, hP, hb⟩ := hrel
        obtain ⟨W1, rfl⟩ : ∃ W1, W1 = wr := ⟨_, rfl⟩
        obtain ⟨hint, hbox, hbw⟩ := HLOW.out W1 hb
        have HP := Nu.hid hP
        have HB' := Nu.hid hb
        have hwi : IntKind.i64.wrap ((i : Int) + 1) = (i : Int) + 1 := by rw [IntKind.wrap_i64]; omega
        by_cases hlt : i < es.length
        · have hlti : (i : Int) < (es.length : Int) := by omega
          have hi0 : (0 : Int) ≤ (i : Int) := by omega
          obtain ⟨p, hp⟩ : ∃ p, es[i]? = some p := ⟨_, List.getElem?_eq_getElem hlt⟩
          obtain ⟨be, oe, rfl, ce0, ce1⟩ := (HE.out.later hbw) i p hp
          have hok := HV.out.each i p hp
          unfold Si.ok at hok
          obtain ⟨pu, pv⟩ := p
          dsimp only at ce0 ce1 hok
          obtain ⟨u, rfl⟩ : ∃ u : Nat, pu = (u : Int) := ⟨pu.toNat, by omega⟩
          have huk : u < k := by omega
          have hfr : Cs.fr es (2 * i) = u := by rw [(Cs.fr_even hp).1]; simp
          have hat : (Co.ints k (Co.num (Fa.cp k es)))[u]? = some (Co.num (Fa.cp k es) u : Int) := by simp [Co.ints, huk]
          obtain ⟨b, o, rfl, hc⟩ := hint u _ hat
          have hnl := Fa.num_lt HN.out huk
          have hcl := Co.cntTo_le (Co.fix (Fa.cp k es)) k
          have hxl : Fa.cE k es (Co.num (Fa.cp k es) u) i ≤ i := Co.cntTo_le _ _
          have hxv : Fa.cV k es (Co.num (Fa.cp k es) u) k ≤ k := Co.cntTo_le _ _
          have HADD := Nu.hid (fun W hW => add_any w1.heap.size n _ _ _ _ (Co.num (Fa.cp k es) u) 0 1 0 W (hP.kept hW) (by omega) (by omega) (by omega) (by omega) (by omega))
          have HU : Hid (Co.upd (fun j => Fa.cE k es j i) (Co.num (Fa.cp k es) u) (Fa.cE k es (Co.num (Fa.cp k es) u) i + 1) = fun j => Fa.cE k es j (i + 1)) := by
            have := Fa.upd_cnt (fun e => Co.num (Fa.cp k es) (Cs.fr es (2 * e))) i
            simp only [hfr] at this
            exact this
          have HH : Hid (Co.updB (fun j => decide (j < Co.cnt k (Fa.cp k es))) (Co.num (Fa.cp k es) u) true = fun j => decide (j < Co.cnt k (Fa.cp k es))) := Fa.updB_same' (by rw [decide_eq_true_iff]; exact hnl)
          obtain ⟨q, hq⟩ : ∃ q, q = Co.num (Fa.cp k es) u := ⟨_, rfl⟩
          rw [← hq] at hc HADD HU HH
          obtain ⟨x0, x1, -⟩ := pair_cells hbox
          have u0 : (0 : Int) ≤ (u : Int) := by omega
          have u1 : (u : Int) < (k : Int) := by omega
          clear hP hint hbox hbw hat hnl hcl hxl hxv hq hb hp hfr hok
          have hbe := block_lt_of_cell ce0
          have hbb := block_lt_of_cell hc
          have HWA : Hid (∀ W, Below W1.heap.size W1 W → Calls Try.prog 51 #[.map (some w1.heap.size), .int .i64 (q : Int), .agg #[.int .i64 0, .int .i64 1, .int .i64 0]] W fun e w' => e = .returned (.tuple #[]) ∧ PM w' w1.heap.size (n + 1) (fun j => decide (j < Co.cnt k (Fa.cp k es))) (fun j => Fa.cV k es j k) (fun j => Fa.cE k es j (i + 1)) (fun _ => 0) ∧ Below w1.heap.size W2 w') := fun W hW => by
            refine (HADD.out W (hW.block _ HP.out.lt)).mono ?_
            rintro e w' ⟨rfl, hp3, hw3⟩
            refine ⟨rfl, ?_, ?_⟩
            · rw [HU.out, HH.out, Fa.upd_none (fun j => Fa.cV k es j k) q, Fa.upd_none (fun _ => 0) q] at hp3
              exact hp3
            · have h1 := HB'.out.trans (hW.mono (by have := HB'.out.size; omega))
              exact h1.trans (hw3.below (by have := h1.size; omega) (fun k hk => by omega))
          go_wp2_with (go_at_call 51; refine (HWA.out _ ((Below.refl _ _).alloc (Nat.le_refl _) _)).mono ?_; rintro e w3 ⟨rfl, hp3, hb3⟩; refine Hid.out ?_)
          refine Nu.hid ?_
          have HP3 := Nu.hid hp3
          have HB3 := Nu.hid hb3
          clear hp3 hb3
          go_wp2
          go_roundw
          case rel => exact ⟨i + 1, n + 1, by omega, by omega, by go_num, HP3.out, HB3.out⟩
          case measure => simp [intOf]; omega
        · have hd2 : ¬ (i : Int) < (es.length : Int) := by omega
          have him : i = es.length := by omega
          have HP2 : Hid (PM W1 w1.heap.size n (fun j => decide (j < Co.cnt k (Fa.cp k es))) (fun j => Fa.cV k es j k) (fun j => Fa.cE k es j es.length) (fun _ => 0)) := by
            rw [him] at hP
            exact hP
          clear hP hint hbox hbw hb him
          go_wp2
          go_loopw [52] (fun c wr => ∃ (i n : Nat), i ≤ K ∧ n ≤ k + es.length + i ∧ c = .int .i64 (i : Int) ∧ PM wr w1.heap.size n (fun j => decide (j < Co.cnt k (Fa.cp k es))) (fun j => Fa.cV k es j k) (fun j => Fa.cE k es j es.length) (fun j => Fa.zF k es fs j i) ∧ Below w1.heap.size W2 wr) (fun c _ => K - (intOf c).toNat)
          case atStart => exact ⟨0, n, Nat.zero_le _, by omega, rfl, by simpa [Fa.zF, Co.cntTo] using HP2.out, HB'.out⟩
          case round =>
            obtain ⟨i, n, hi, hni, rfl, hP, hb⟩ := hrel
            obtain ⟨W3, rfl⟩ : ∃ W3, W3 = wr := ⟨_, rfl⟩
            obtain ⟨hint, hbox, hbw⟩ := HLOW.out W3 hb
            have HP := Nu.hid hP
            have HB3 := Nu.hid hb
            have hwi : IntKind.i64.wrap ((i : Int) + 1) = (i : Int) + 1 := by rw [IntKind.wrap_i64]; omega
            by_cases hlt : i < K
            · have hlti : (i : Int) < (K : Int) := by omega
              have hi0 : (0 : Int) ≤ (i : Int) := by omega
              obtain ⟨l, hlk⟩ : ∃ l, fs[i]? = some l := ⟨_, List.getElem?_eq_getElem (by rw [HKK.out]; exact hlt)⟩
              have hlz : (fs.map Fa.zl)[i]? = some (Fa.zl l) := by rw [List.getElem?_map, hlk]; rfl
              obtain ⟨bf, of, A, C, rfl, hcf, hL, -, -, -⟩ := HF.out i _ hlz
              obtain ⟨hl0, hhd⟩ := HNE.out l (List.mem_of_getElem? hlk)
              obtain ⟨r, hr⟩ : ∃ r, r = Fa.hd l := ⟨_, rfl⟩
              rw [← hr] at hhd
              have hlr : (Fa.zl l)[0]? = some (r : Int) := by
                cases l with
                | nil => exact absurd rfl hl0
                | cons y l => rw [hr]; rfl
              obtain ⟨bl, ol, rfl, hcl⟩ := hL.ints 0 _ hlr
              rw [Nat.add_zero] at hcl
              have hlp : 0 < (Fa.zl l).length := by
                cases l with
                | nil => exact absurd rfl hl0
                | cons y l => simp [Fa.zl]
              obtain ⟨p, hp⟩ : ∃ p, es[r / 2]? = some p := ⟨_, List.getElem?_eq_getElem (by omega)⟩
              obtain ⟨be, oe, rfl, ce0, ce1⟩ := HE.out (r / 2) p hp
              have hok := HV.out.each _ p hp
              unfold Si.ok at hok
              obtain ⟨pu, pv⟩ := p
              dsimp only at ce0 ce1 hok
              obtain ⟨u, rfl⟩ : ∃ u : Nat, pu = (u : Int) := ⟨pu.toNat, by omega⟩
              have huk : u < k := by omega
              have hfr : Cs.fr es (2 * (r / 2)) = u := by rw [(Cs.fr_even hp).1]; simp
              have hnum : Co.num (Fa.cp k es) u = Co.num (Fa.cp k es) (Cs.fr es r) := by
                unfold Co.num
                rcases Nat.mod_two_eq_zero_or_one r with h2 | h2
                · have e : 2 * (r / 2) = r := by omega
                  rw [← hfr, e]
                · have e : 2 * (r / 2) = Cs.twin r := by unfold Cs.twin; rw [if_neg (by omega)]; omega
                  rw [← hfr, e, Fa.cp_twin HV.out hhd]
              have hat : (Co.ints k (Co.num (Fa.cp k es)))[u]? = some (Co.num (Fa.cp k es) u : Int) := by simp [Co.ints, huk]
              obtain ⟨b, o, rfl, hc⟩ := hint u _ hat
              have hnl := Fa.num_lt HN.out huk
              have hcl' := Co.cntTo_le (Co.fix (Fa.cp k es)) k
              have hxl : Fa.zF k es fs (Co.num (Fa.cp k es) u) i ≤ i := Co.cntTo_le _ _
              have hxv : Fa.cV k es (Co.num (Fa.cp k es) u) k ≤ k := Co.cntTo_le _ _
              have hxe : Fa.cE k es (Co.num (Fa.cp k es) u) es.length ≤ es.length := Co.cntTo_le _ _
              have HADD := Nu.hid (fun W hW => add_any w1.heap.size n _ _ _ _ (Co.num (Fa.cp k es) u) 0 0 1 W (hP.kept hW) (by omega) (by omega) (by omega) (by omega) (by omega))
              have HU : Hid (Co.upd (fun j => Fa.zF k es fs j i) (Co.num (Fa.cp k es) u) (Fa.zF k es fs (Co.num (Fa.cp k es) u) i + 1) = fun j => Fa.zF k es fs j (i + 1)) := by
                have := Fa.upd_cnt (fun e => Co.num (Fa.cp k es) (Cs.fr es (Fa.hd (fs.getD e [])))) i
                have e2 : fs.getD i [] = l := by rw [List.getD_eq_getElem?_getD, hlk]; rfl
                simp only [e2, ← hr, ← hnum] at this
                exact this
              have HH : Hid (Co.updB (fun j => decide (j < Co.cnt k (Fa.cp k es))) (Co.num (Fa.cp k es) u) true = fun j => decide (j < Co.cnt k (Fa.cp k es))) := Fa.updB_same' (by rw [decide_eq_true_iff]; exact hnl)
              obtain ⟨q, hq⟩ : ∃ q, q = Co.num (Fa.cp k es) u := ⟨_, rfl⟩
              rw [← hq] at hc HADD HU HH
              obtain ⟨x0, x1, -⟩ := pair_cells hbox
              have u0 : (0 : Int) ≤ (u : Int) := by omega
              have u1 : (u : Int) < (k : Int) := by omega
              obtain ⟨rh, hrh⟩ : ∃ rh, rh = r / 2 := ⟨_, rfl⟩
              have td : (r : Int).tdiv 2 = (rh : Int) := by rw [Int.tdiv_eq_ediv_of_nonneg (by omega)]; omega
              have td2 : (r : Int) / 2 = (rh : Int) := by omega
              have td3 : r / 2 = rh := hrh.symm
              have tw : IntKind.i64.wrap (rh : Int) = (rh : Int) := by rw [IntKind.wrap_i64]; omega
              have rh0 : (0 : Int) ≤ (rh : Int) := by omega
              have rh1 : (rh : Int) < (es.length : Int) := by omega
              rw [← hrh] at ce0 ce1
              obtain ⟨lq, hlq⟩ : ∃ lq, lq = (Fa.zl l).length := ⟨_, rfl⟩
              rw [← hlq] at hcf hlp
              have lq0 : (0 : Int) < (lq : Int) := by omega
              have HWA : Hid (∀ W, Below W3.heap.size W3 W → Calls Try.prog 51 #[.map (some w1.heap.size), .int .i64 (q : Int), .agg #[.int .i64 0, .int .i64 0, .int .i64 1]] W fun e w' => e = .returned (.tuple #[]) ∧ PM w' w1.heap.size (n + 1) (fun j => decide (j < Co.cnt k (Fa.cp k es))) (fun j => Fa.cV k es j k) (fun j => Fa.cE k es j es.length) (fun j => Fa.zF k es fs j (i + 1)) ∧ Below w1.heap.size W2 w') := fun W hW => by
                refine (HADD.out W (hW.block _ HP.out.lt)).mono ?_
                rintro e w' ⟨rfl, hp3, hw3⟩
                refine ⟨rfl, ?_, ?_⟩
                · rw [HU.out, HH.out, Fa.upd_none (fun j => Fa.cV k es j k) q, Fa.upd_none (fun j => Fa.cE k es j es.length) q] at hp3
                  exact hp3
                · have h1 := HB3.out.trans (hW.mono (by have := HB3.out.size; omega))
                  exact h1.trans (hw3.below (by have := h1.size; omega) (fun k hk => by omega))
              have HS : Hid (∀ U, Below w1.heap.size W2 U → U.cell? ⟨w.heap.size, 1, none⟩ = some (.slice (some ⟨be, oe, none⟩) es.length ca) ∧ U.cell? ⟨bl, ol, none⟩ = some (.int .i64 (r : Int)) ∧ U.cell? ⟨be, oe + rh * 2, none⟩ = some (.int .i64 (u : Int)) ∧ U.cell? ⟨b, o + u, none⟩ = some (.int .i64 (q : Int))) := fun U hU => by
                obtain ⟨hint', hbox', hbw'⟩ := HLOW.out U hU
                obtain ⟨b', o', e', hc'⟩ := hint' u _ hat
                cases e'
                rw [← hq] at hc'
                exact ⟨(pair_cells hbox').2.1, (hbw'.cell (p := ⟨bl, ol, none⟩) (block_lt_of_cell hcl)).trans hcl, (hbw'.cell (p := ⟨be, oe + rh * 2, none⟩) (block_lt_of_cell ce0)).trans ce0, hc'⟩
              have hcf' := (hbw.cell (p := ⟨bf, of + i, none⟩) (block_lt_of_cell hcf)).trans hcf
              have y0 := HS.out W3 hb
              have yd := HS.out W3.drew hb.drew
              clear hP hint hbox hbw hat hnl hcl' hxl hxv hxe hq hb hp hfr hok hnum hlk hlz hL hl0 hhd hr hlr hrh hlq
              clear hcf hcl ce0 ce1 x0 x1 hc
              go_wp2_with fail
              go_region_held3 (fun U => U.cell? ⟨w.heap.size, 1, none⟩ = some (.slice (some ⟨be, oe, none⟩) es.length ca) ∧ U.cell? ⟨bl, ol, none⟩ = some (.int .i64 (r : Int)) ∧ U.cell? ⟨be, oe + rh * 2, none⟩ = some (.int .i64 (u : Int)) ∧ U.cell? ⟨b, o + u, none⟩ = some (.int .i64 (q : Int)))
                (first | exact yd | exact y0 | exact hS3)
                ((go_at_call 51; refine (HWA.out W3.drew (Below.refl _ _).drew).mono ?_; rintro e w3 ⟨rfl, hp3, hb3⟩; have hS3 := HS.out w3 hb3))
              have HP3 := Nu.hid hp3
              have HBZ := Nu.hid hb3
              clear hp3 hb3 hS3 yd y0 HS HWA
              go_wp2
              go_roundw
              case rel => exact ⟨i + 1, n + 1, by omega, by omega, by go_num, HP3.out, HBZ.out⟩
              case measure => simp [intOf]; omega
            · have hd3 : ¬ (i : Int) < (K : Int) := by omega
              have hiK : i = K := by omega
              have HP4 : Hid (PM W3 w1.heap.size n (fun j => decide (j < Co.cnt k (Fa.cp k es))) (fun j => Fa.cV k es j k) (fun j => Fa.cE k es j es.length) (fun j => Fa.zF k es fs j fs.length)) := by
                rw [HKK.out]
                rw [hiK] at hP
                exact hP
              have HBE := Nu.hid hbw
              clear hP hint hbox hbw hb hiK
              go_wp2
              go_ret
              exact ⟨w1.heap.size, n, rfl, hs1, by omega, HP4.out, HBE.out⟩

end Go.Proofs.Ytfkmldopfhdbkaa

/-
  Faces, the program: Genus, Flat.
-/
namespace Go.Proofs.Ytfkmldopfhdbkaa
open Go.RowKit Go.Maps

set_option maxRecDepth 100000 in
set_option maxHeartbeats 4000000 in
theorem genus1_any (a b c : Nat) (w : World) (ha : a ≤ 8388608) (hb : b ≤ 8388608) (hc : c ≤ 8388608) :
    Calls Try.prog 35 #[.agg #[.int .i64 (a : Int), .int .i64 (b : Int), .int .i64 (c : Int)]] w fun e w' => e = .returned (.int .i64 (Fa.gen a b c)) ∧ Below w.heap.size w w' := by
  have HB := Nu.hid ((Below.refl w.heap.size w).alloc (Nat.le_refl _) (.cells #[.int .i64 (a : Int), .int .i64 (b : Int), .int .i64 (c : Int)] 69))
  unfold Fa.gen
  by_cases h : b = 0
  · rw [if_pos h]
    have hb0 : ((b : Int) == 0) = true := by simp [h]
    clear h
    go_enter Try.func35, Try.ntmps35
    go_wp2
    go_ret
    exact ⟨rfl, HB.out⟩
  · rw [if_neg h]
    have hb0 : ((b : Int) == 0) = false := by
      have : ¬ (b : Int) = 0 := by omega
      simpa using this
    have q1 : IntKind.i64.wrap ((2 : Int) - (a : Int)) = (2 : Int) - (a : Int) := by rw [IntKind.wrap_i64]; omega
    have q2 : IntKind.i64.wrap ((2 : Int) - (a : Int) + (b : Int)) = (2 : Int) - (a : Int) + (b : Int) := by rw [IntKind.wrap_i64]; omega
    have q3 : IntKind.i64.wrap ((2 : Int) - (a : Int) + (b : Int) - (c : Int)) = (2 : Int) - (a : Int) + (b : Int) - (c : Int) := by rw [IntKind.wrap_i64]; omega
    obtain ⟨t, ht⟩ : ∃ t, t = (2 : Int) - (a : Int) + (b : Int) - (c : Int) := ⟨_, rfl⟩
    have h1 : t.tdiv 2 ≤ 16777216 ∧ -16777216 ≤ t.tdiv 2 := by
      have h2 : -25165830 ≤ t ∧ t ≤ 25165830 := by omega
      rcases Int.le_total 0 t with h0 | h0
      · rw [Int.tdiv_eq_ediv_of_nonneg h0]
        omega
      · have h3 : (-t).tdiv 2 = (-t) / 2 := Int.tdiv_eq_ediv_of_nonneg (by omega)
        have h4 := Int.neg_tdiv t 2
        omega
    have q4 : IntKind.i64.wrap (t.tdiv 2) = t.tdiv 2 := by rw [IntKind.wrap_i64]; omega
    rw [ht] at q4
    clear h ht h1
    go_enter Try.func35, Try.ntmps35
    go_wp2
    go_ret
    exact ⟨rfl, HB.out⟩

end Go.Proofs.Ytfkmldopfhdbkaa
