/-
  The statements' own 'reaches'.
-/
import Derived.Test.YtoaaihbeehpgfaaCoOf
import Derived.Test.YtoaaihbeehpgfaaCoG
import Derived.Test.YtoaaihbeehpgfaaCoBools
import Derived.BigRegion
import Derived.BigQuiet
import Derived.Deep.QuietTactic
namespace Go.Proofs.Ytoaaihbeehpgfaa
open Go.RowKit Go.Sort

namespace Co
theorem num_lt {n : Nat} {m : Nat → Nat} (h : Norm n m) {a b : Nat} (ha : a < n) (hlt : m a < b) : num m a < cntTo (fix m) b := cntTo_lt (by simpa [fix] using h.idem a ha) hlt

/-- One number of the set just if one set. -/
theorem num_inj {n : Nat} {m : Nat → Nat} (h : Norm n m) {a b : Nat} (ha : a < n) (hb : b < n) : num m a = num m b ↔ m a = m b := by
  constructor
  · intro e
    rcases Nat.lt_trichotomy (m a) (m b) with hc | hc | hc
    · have := num_lt h ha hc
      unfold num at e this
      omega
    · exact hc
    · have := num_lt h hb hc
      unfold num at e this
      omega
  · intro e
    unfold num
    rw [e]

/-- A truth as a number. -/
def tick (f : Nat → Bool) : Nat → Nat := fun u => if f u then 1 else 0

theorem cntTo_updB {f : Nat → Bool} {x : Nat} (hx : f x = false) : ∀ k, x < k → cntTo (fun i => !updB f x true i) k < cntTo (fun i => !f i) k
  | 0, h => by omega
  | k + 1, h => by
    have e0 : ∀ g : Nat → Bool, cntTo g (k + 1) = cntTo g k + (if g k then 1 else 0) := fun _ => rfl
    rw [e0, e0]
    by_cases e : x = k
    · subst e
      rw [updB_same, hx, cntTo_congr (p := fun i => !updB f x true i) (q := fun i => !f i) x (fun i hi => by rw [updB_other _ (by omega)])]
      simp
    · have := cntTo_updB hx k (by omega)
      rw [updB_other _ (by omega)]
      omega

theorem cntTo_updB_le {f : Nat → Bool} {x : Nat} : ∀ k, cntTo (fun i => !updB f x true i) k ≤ cntTo (fun i => !f i) k := fun k => cntTo_mono k (fun i _ h => by
  by_cases e : i = x
  · subst e; rw [updB_same] at h; cases h
  · rw [updB_other _ e] at h; exact h)
end Co

/-- The truth in a cell, as a number. -/
def cellOff (w : World) (g i : Nat) : Bool :=
  match w.cell? ⟨g, i, none⟩ with
  | some (.bool b) => !b
  | _ => false

theorem cellOff_eq {w : World} {g n : Nat} {f : Nat → Bool} (h : BoolsIn w g n f) {i : Nat} (hi : i < n) : cellOff w g i = !f i := by
  unfold cellOff
  rw [h.cell hi]

theorem off_eq {w : World} {g n : Nat} {f : Nat → Bool} (h : BoolsIn w g n f) : Co.cntTo (cellOff w g) n = Co.cntTo (fun i => !f i) n := Co.cntTo_congr n fun _ hi => cellOff_eq h hi

def boolUp : Value → Nat
  | .bool true => 1
  | _ => 0

/-- A pass has come to edge i. -/
structure PassB (m : Nat) (es : List (Int × Int)) (M : Nat → Nat) (v : Nat) (f0 f : Nat → Bool) (i : Nat) (ch : Bool) : Prop where
  start : f v = true
  sound : ∀ u, u < m → f u = true → M u = M v
  less : Co.cntTo (fun i => !f i) m ≤ Co.cntTo (fun i => !f0 i) m
  yes : ch = true → Co.cntTo (fun i => !f i) m < Co.cntTo (fun i => !f0 i) m
  no : ch = false → Co.Meets m (es.take i) (Co.tick f)

theorem reach_done {m : Nat} {es : List (Int × Int)} {M : Nat → Nat} (hg : Co.Gen m es M) {v : Nat} (hv : v < m) {f : Nat → Bool} (hs : f v = true) (hsd : ∀ u, u < m → f u = true → M u = M v) (hm : Co.Meets m es (Co.tick f)) {u : Nat} (hu : u < m) : f u = decide (Co.num M u = Co.num M v) := by
  rw [Bool.eq_iff_iff, decide_eq_true_iff, Co.num_inj hg.norm hu hv]
  refine ⟨hsd u hu, fun e => ?_⟩
  have h1 := hg.least _ hm u hu
  have h2 := hg.least _ hm v hv
  rw [e, h2] at h1
  unfold Co.tick at h1
  rw [hs] at h1
  cases hf : f u
  · rw [hf] at h1; simp at h1
  · rfl

set_option maxRecDepth 100000 in
set_option maxHeartbeats 16000000 in
theorem reaches_any (m : Nat) (ao : Option Addr) (cap : Nat) (es : List (Int × Int)) (oo : Option Addr) (oc v : Nat) (w : World) (he : EdgesAt w ao es) (hval : Si.Val m es) (ho : IntsAt w oo (Co.ints m (Co.num (Co.ofG m es)))) (hv : v < m) :
    Calls Try.prog 27 #[.agg #[.int .i64 (m : Int), .slice ao es.length cap], .slice oo m oc, .int .i64 (v : Int)] w fun e w' => e = .returned (.bool true) ∧ Below w.heap.size w w' := by
  obtain ⟨i0, hi, hz0, hz1, hz2⟩ := info_parts Try.infoBool
  have hfew := hval.few
  have hhi := hval.hi
  have HE := Nu.hid he
  have HVAL := Nu.hid hval
  have HO := Nu.hid ho
  have HGEN := Nu.hid (Co.ofG_gen m es)
  obtain ⟨M, hM⟩ : ∃ M, Co.ofG m es = M := ⟨_, rfl⟩
  rw [hM] at HO HGEN
  have hmk : ∀ W, (Instr.makeSlice 45 (.int .i64 (m : Int)) (.int .i64 (m : Int))).run Try.prog W = .ok (.slice (some ⟨W.heap.size, 0, none⟩) m m) (W.alloc (.cells (madeCells #[.bool false] m) 4)) := fun W => by
    have := run_make (P := Try.prog) W 45 4 i0 (.bool false) Try.underlying45 hi hz0 .i64 .i64 (m : Int) (m : Int) (by omega) (Int.le_refl _) (by rw [hz2]; omega) (by omega)
    rw [this, hz1]
    simp [Value.cells]
  have v0 : (0 : Int) ≤ (v : Int) := by omega
  have v1 : (v : Int) < (m : Int) := by omega
  -- what stands ahead of the passes
  obtain ⟨W1, hW1⟩ : ∃ W1, W1 = (w.alloc (.cells #[.int .i64 (m : Int), .slice ao es.length cap] 49)).alloc (.cells (madeCells #[.bool false] m) 4) := ⟨_, rfl⟩
  have hI1 : BoolsIn W1 (w.heap.size + 1) m (fun _ => false) := by rw [hW1]; exact made_bools (by simp) m
  have hb1 : Below w.heap.size w W1 := by rw [hW1]; exact ((Below.refl _ _).alloc (Nat.le_refl _) _).alloc (by simp) _
  have hg1 : W1.heap[w.heap.size]? = some (.cells #[.int .i64 (m : Int), .slice ao es.length cap] 49 (0, 0)) := by
    rw [hW1, Below.heap_alloc _ _ _ (by simp)]
    exact heap_alloc_new w _
  have HI2 := Nu.hid (hI1.set v true)
  have HG2 : Hid ((W1.setCell ⟨w.heap.size + 1, v, none⟩ (.bool true)).heap[w.heap.size]? = some (.cells #[.int .i64 (m : Int), .slice ao es.length cap] 49 (0, 0))) := (heap_setCell_other W1 ⟨w.heap.size + 1, v, none⟩ w.heap.size _ (by show w.heap.size ≠ w.heap.size + 1; omega)).trans hg1
  have HB2 := Nu.hid (hb1.setCell (p := ⟨w.heap.size + 1, v, none⟩) (by show w.heap.size ≤ w.heap.size + 1; omega) (.bool true))
  have cA := hI1.cell hv
  have fA := hI1.free
  rw [hW1] at cA fA HI2 HG2 HB2
  have hfold : ((w.alloc (.cells #[.int .i64 (m : Int), .slice ao es.length cap] 49)).alloc (.cells (madeCells #[.bool false] m) 4)).setCell ⟨w.heap.size + 1, v, none⟩ (.bool true) = (w.alloc (.cells #[.int .i64 (m : Int), .slice ao es.length cap] 49)).alloc (.cells ((madeCells #[.bool false] m).setIfInBounds v (.bool true)) 4) := World.setCell_alloc_at _ _ _ _ _ (by simp)
  rw [hfold] at HI2 HG2 HB2
  clear hfold
  have HP0 : Hid (∀ u, u < m → Co.updB (fun _ => false) v true u = true → M u = M v) := fun u _ h => by
    by_cases e : u = v
    · rw [e]
    · rw [Co.updB_other _ e] at h; cases h
  clear he hval ho hM hI1 hb1 hg1 hW1
  go_enter Try.func27, Try.ntmps27
  go_wp2
  clear hmk cA fA
  go_loopw [8] (fun cb wr => ∃ (ch : Bool) (f : Nat → Bool), cb = .bool ch ∧ BoolsIn wr (w.heap.size + 1) m f ∧ f v = true ∧ (∀ u, u < m → f u = true → M u = M v) ∧ (ch = false → Co.Meets m es (Co.tick f)) ∧ wr.heap[w.heap.size]? = some (.cells #[.int .i64 (m : Int), .slice ao es.length cap] 49 (0, 0)) ∧ Below w.heap.size w wr) (fun cb wr => 2 * Co.cntTo (cellOff wr (w.heap.size + 1)) m + boolUp cb)
  case atStart => exact ⟨true, _, rfl, HI2.out, Co.updB_same _ _ _, HP0.out, fun h => (by cases h), HG2.out, HB2.out⟩
  case round =>
    obtain ⟨ch, f0, rfl, hI0, hs0, hd0, hM0, hg0, hb0⟩ := hrel
    obtain ⟨w0, rfl⟩ : ∃ w0, w0 = wr := ⟨wr, rfl⟩
    have HI0 := Nu.hid hI0
    have HS0 := Nu.hid hs0
    have HD0 := Nu.hid hd0
    have HM0 := Nu.hid hM0
    have HG0 := Nu.hid hg0
    have HB0 := Nu.hid hb0
    obtain ⟨x0, x1, -⟩ := pair_cells hg0
    cases ch with
    | true =>
      clear hI0 hs0 hd0 hM0 hg0 hb0
      go_wp2
      clear x0 x1
      go_loopw [8, 22] (fun cb cv wr => ∃ (i : Nat) (ch : Bool) (f : Nat → Bool), i ≤ es.length ∧ cv = .int .i64 (i : Int) ∧ cb = .bool ch ∧ BoolsIn wr (w.heap.size + 1) m f ∧ PassB m es M v f0 f i ch ∧ wr.heap[w.heap.size]? = some (.cells #[.int .i64 (m : Int), .slice ao es.length cap] 49 (0, 0)) ∧ Below w.heap.size w wr) (fun _ cv _ => es.length - (intOf cv).toNat)
      case atStart => exact ⟨0, false, f0, Nat.zero_le _, rfl, rfl, HI0.out, ⟨HS0.out, HD0.out, Nat.le_refl _, fun h => (by cases h), fun _ j hj => by simp at hj⟩, HG0.out, HB0.out⟩
      case round =>
        obtain ⟨i, ch, f, hi', rfl, rfl, hI, hP, hg, hb⟩ := hrel
        have HI := Nu.hid hI
        have HP := Nu.hid hP
        have HG := Nu.hid hg
        have HB := Nu.hid hb
        by_cases hlt : i < es.length
        · have hlti : (i : Int) < (es.length : Int) := by omega
          have hi0' : (0 : Int) ≤ (i : Int) := by omega
          obtain ⟨q, hq⟩ : ∃ q, es[i]? = some q := ⟨_, List.getElem?_eq_getElem hlt⟩
          have hok := HVAL.out.each i q hq
          unfold Si.ok at hok
          obtain ⟨b, o, rfl, c0, c1⟩ := (HE.out.later hb) i q hq
          have hbl := block_lt_of_cell c0
          obtain ⟨qu, qv⟩ := q
          dsimp only at c0 c1 hok
          obtain ⟨u, rfl⟩ : ∃ u : Nat, qu = (u : Int) := ⟨qu.toNat, by omega⟩
          obtain ⟨y, rfl⟩ : ∃ y : Nat, qv = (y : Int) := ⟨qv.toNat, by omega⟩
          have hum : u < m := by omega
          have hym : y < m := by omega
          have hne : u ≠ y := by omega
          have u0 : (0 : Int) ≤ (u : Int) := by omega
          have u1 : (u : Int) < (m : Int) := by omega
          have y0 : (0 : Int) ≤ (y : Int) := by omega
          have y1 : (y : Int) < (m : Int) := by omega
          have hMu : M u = M y := by
            have := HGEN.out.meets _ (List.mem_of_getElem? hq) ⟨u0, u1⟩ ⟨y0, y1⟩
            simpa using this
          have htk := Si.take_snoc hq
          have hIa := hI.later ((Below.refl wr.heap.size wr).alloc (Nat.le_refl _) (.cells #[.int .i64 (u : Int), .int .i64 (y : Int)] 61))
          have hga := (Below.heap_alloc wr (.cells #[.int .i64 (u : Int), .int .i64 (y : Int)] 61) w.heap.size (lt_of_block hg)).trans hg
          have hba := hb.alloc hb.size (.cells #[.int .i64 (u : Int), .int .i64 (y : Int)] 61)
          have hsI := hI.lt
          have cu := hIa.cell hum
          have cy := hIa.cell hym
          have cf := hIa.free
          have hgw : w.heap.size ≠ w.heap.size + 1 := by omega
          by_cases hfe : f u = f y
          · have hd : True := trivial
            have HP1 : Hid (PassB m es M v f0 f (i + 1) ch) := ⟨hP.start, hP.sound, hP.less, hP.yes, fun h => by
              rw [htk]
              intro j hj h1 h2
              rcases List.mem_append.1 hj with hj | hj
              · exact hP.no h j hj h1 h2
              · obtain rfl := List.mem_singleton.1 hj
                unfold Co.tick
                simp [hfe]⟩
            have HIA := Nu.hid hIa
            have HGA := Nu.hid hga
            have HBA := Nu.hid hba
            obtain ⟨tu, htu⟩ : ∃ tu, f u = tu := ⟨_, rfl⟩
            rw [← hfe, htu] at cy
            rw [htu] at cu
            clear hI hP hg hb hq hok hIa hga hba htk hfe htu hMu hd
            cases tu
            all_goals
              go_wp2_with fail
              go_quiet (fail)
              go_wp2
              go_roundw
              case rel => exact ⟨i + 1, ch, f, by omega, by go_num, rfl, HIA.out, HP1.out, HGA.out, below_drewN HBA.out _⟩
              case measure => simp [intOf]; omega
          · have hd : True := trivial
            have hMx : M u = M v ∧ M y = M v := by
              cases hfu : f u
              · have : f y = true := by
                  cases hfy : f y
                  · rw [hfu, hfy] at hfe; exact absurd rfl hfe
                  · rfl
                have := hP.sound y hym this
                exact ⟨hMu.trans this, this⟩
              · have := hP.sound u hum hfu
                exact ⟨this, hMu.symm.trans this⟩
            have n1 := hIa.set u true
            have e1 := n1.cell hym
            have e1f := n1.free
            have n2 := n1.set y true
            have n3 := hIa.set y true
            have e3 := n3.cell hum
            have e3f := n3.free
            have HP1 : Hid (PassB m es M v f0 (Co.updB (Co.updB f u true) y true) (i + 1) true) := by
              have h1 := hP.less
              have h2 : Co.cntTo (fun i => !Co.updB (Co.updB f u true) y true i) m < Co.cntTo (fun i => !f i) m := by
                cases hfu : f u
                · exact Nat.lt_of_le_of_lt (Co.cntTo_updB_le m) (Co.cntTo_updB hfu m hum)
                · have hfy : f y = false := by
                    cases hfy : f y
                    · rfl
                    · rw [hfu, hfy] at hfe; exact absurd rfl hfe
                  refine Nat.lt_of_lt_of_le (Co.cntTo_updB (f := Co.updB f u true) ?_ m hym) (Co.cntTo_updB_le m)
                  rw [Co.updB_other _ (Ne.symm hne)]
                  exact hfy
              refine ⟨?_, fun z hz h => ?_, by omega, fun _ => by omega, fun h => (by cases h)⟩
              · by_cases e : v = y
                · subst e; rw [Co.updB_same]
                · rw [Co.updB_other _ e]
                  by_cases e' : v = u
                  · subst e'; rw [Co.updB_same]
                  · rw [Co.updB_other _ e']; exact hP.start
              · by_cases e : z = y
                · subst e; exact hMx.2
                · rw [Co.updB_other _ e] at h
                  by_cases e' : z = u
                  · subst e'; exact hMx.1
                  · rw [Co.updB_other _ e'] at h; exact hP.sound z hz h
            have HN2 := Nu.hid n2
            obtain ⟨W, hW⟩ : ∃ W, W = wr.alloc (.cells #[.int .i64 (u : Int), .int .i64 (y : Int)] 61) := ⟨_, rfl⟩
            have HG1 : Hid ((((wr.alloc (.cells #[.int .i64 (u : Int), .int .i64 (y : Int)] 61)).setCell ⟨w.heap.size + 1, u, none⟩ (.bool true)).setCell ⟨w.heap.size + 1, y, none⟩ (.bool true)).heap[w.heap.size]? = some (.cells #[.int .i64 (m : Int), .slice (some ⟨b, o, none⟩) es.length cap] 49 (0, 0))) := by
              show _ = _
              rw [heap_setCell_other _ ⟨w.heap.size + 1, y, none⟩ w.heap.size _ hgw, heap_setCell_other _ ⟨w.heap.size + 1, u, none⟩ w.heap.size _ hgw]
              exact hga
            have HB1' := Nu.hid ((hba.setCell (p := ⟨w.heap.size + 1, u, none⟩) (by show w.heap.size ≤ w.heap.size + 1; omega) (.bool true)).setCell (p := ⟨w.heap.size + 1, y, none⟩) (by show w.heap.size ≤ w.heap.size + 1; omega) (.bool true))
            obtain ⟨tu, htu⟩ : ∃ tu, f u = tu := ⟨_, rfl⟩
            have hty : f y = !tu := by
              rw [← htu]
              cases h1 : f u <;> cases h2 : f y <;> first | rfl | (rw [h1, h2] at hfe; exact absurd rfl hfe)
            rw [htu] at cu
            rw [hty] at cy
            clear hI hP hg hb hq hok hIa hga hba htk hfe htu hty hMu hMx n1 n2 n3 hW hd
            cases tu
            all_goals
              go_wp2_with fail
              go_quiet (fail)
              go_wp2_with fail
              go_big_region
              go_wp2
              go_roundw
              case rel => exact ⟨i + 1, true, _, by omega, by go_num, rfl, HN2.out, HP1.out, HG1.out, (below_drewN HB1'.out _).drew⟩
              case measure => simp [intOf]; omega
        · have hd : ¬ ((i : Int) < (es.length : Int)) := by omega
          have HNO : Hid (ch = false → Co.Meets m es (Co.tick f)) := fun h => by
            have := hP.no h
            rw [List.take_of_length_le (by omega)] at this
            exact this
          clear hI hP hg hb
          go_wp2
          go_roundw
          case rel => exact ⟨ch, f, rfl, HI.out, HP.out.start, HP.out.sound, HNO.out, HG.out, HB.out⟩
          case measure =>
            rw [off_eq HI.out, off_eq HI0.out]
            have h1 := HP.out.less
            have h2 := HP.out.yes
            cases ch
            · simp [boolUp]; omega
            · have := h2 rfl
              simp [boolUp]
              omega
    | false =>
      have hdone : ∀ u, u < m → f0 u = decide (Co.num M u = Co.num M v) := fun u hu => reach_done HGEN.out hv hs0 hd0 (hM0 rfl) hu
      have HDONE := Nu.hid hdone
      clear hI0 hs0 hd0 hM0 hg0 hb0 hdone
      go_wp2
      clear x0 x1
      go_loopw [48] (fun cv wr => ∃ k : Nat, k ≤ m ∧ cv = .int .i64 (k : Int) ∧ BoolsIn wr (w.heap.size + 1) m f0 ∧ Below w.heap.size w wr) (fun cv _ => m - (intOf cv).toNat)
      case atStart => exact ⟨0, Nat.zero_le _, rfl, HI0.out, HB0.out⟩
      case round =>
        obtain ⟨k, hk, rfl, hI, hb⟩ := hrel
        have HI := Nu.hid hI
        have HB := Nu.hid hb
        by_cases hkm : k < m
        · have hk0 : (0 : Int) ≤ (k : Int) := by omega
          have hk1 : (k : Int) < (m : Int) := by omega
          have cm := hI.cell hkm
          rw [HDONE.out k hkm] at cm
          obtain ⟨p, o, hoo, c0⟩ := (HO.out.later hb) k _ (Co.ints_at hkm)
          obtain ⟨p', o', hoo', c1⟩ := (HO.out.later hb) v _ (Co.ints_at hv)
          rw [hoo] at hoo'
          cases hoo'
          have hbe : ((Co.num M k : Int) == (Co.num M v : Int)) = decide (Co.num M k = Co.num M v) := by
            rw [Bool.eq_iff_iff]
            simp
            omega
          obtain ⟨t, ht⟩ : ∃ t, decide (Co.num M k = Co.num M v) = t := ⟨_, rfl⟩
          rw [ht] at cm hbe
          have hne : (t != t) = false := by simp
          subst hoo
          clear hI hb ht
          go_wp2_with fail
          go_quiet (fail)
          go_wp2
          go_roundw
          case rel => exact ⟨k + 1, by omega, by go_num, HI.out, below_drewN HB.out _⟩
          case measure => simp [intOf]; omega
        · have hd : ¬ ((k : Int) < (m : Int)) := by omega
          clear hI hb
          go_wp2
          go_ret
          exact ⟨rfl, HB.out⟩

end Go.Proofs.Ytoaaihbeehpgfaa
