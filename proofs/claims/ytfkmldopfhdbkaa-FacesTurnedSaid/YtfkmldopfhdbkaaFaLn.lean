/-
  How many faces have each length: the law's own count.
-/
import Derived.Test.YtfkmldopfhdbkaaFaZ
namespace Go.Proofs.Ytfkmldopfhdbkaa
open Go.RowKit Go.Sort

namespace Fa
/-- By length, how many of the first k lists. -/
def lens (F : List (List Int)) (n k : Nat) : List Int := (List.range n).map fun L => (cL F L k : Int)
theorem lens_len (F : List (List Int)) (n k : Nat) : (lens F n k).length = n := by simp [lens]
theorem lens_at {F : List (List Int)} {n k L : Nat} (h : L < n) : (lens F n k)[L]? = some (cL F L k : Int) := by
  unfold lens
  rw [List.getElem?_map, List.getElem?_range h]
  rfl
theorem lens_zero (F : List (List Int)) (n : Nat) : lens F n 0 = List.replicate n 0 := by
  refine List.ext_getElem? fun i => ?_
  by_cases h : i < n
  · rw [lens_at h]
    simp [cL, Co.cntTo, h]
  · rw [List.getElem?_eq_none (by rw [lens_len]; omega), List.getElem?_eq_none (by simp; omega)]
theorem lens_succ {F : List (List Int)} {n k : Nat} {l : List Int} (h : F[k]? = some l) : (lens F n k).set l.length ((cL F l.length k : Int) + 1) = lens F n (k + 1) := by
  refine List.ext_getElem? fun i => ?_
  have e : ∀ L, cL F L (k + 1) = cL F L k + if decide ((F.getD k []).length = L) = true then 1 else 0 := fun L => rfl
  have e2 : F.getD k [] = l := by rw [List.getD_eq_getElem?_getD, h]; rfl
  by_cases hi : i < n
  · rw [List.getElem?_set, lens_at hi, lens_at hi, e i, e2]
    by_cases h1 : l.length = i
    · subst h1
      rw [if_pos rfl, if_pos (by rw [lens_len]; exact hi)]
      simp
    · rw [if_neg h1]
      simp [h1]
  · rw [List.getElem?_eq_none (by rw [List.length_set, lens_len]; omega), List.getElem?_eq_none (by rw [lens_len]; omega)]
theorem lens_same {F F' : List (List Int)} {n k k' : Nat} (h : ∀ L, cL F L k = cL F' L k') : lens F n k = lens F' n k' := by
  unfold lens
  exact List.map_congr_left fun L _ => by rw [h L]
end Fa

set_option maxRecDepth 100000 in
set_option maxHeartbeats 4000000 in
theorem lengths_any (fo : Option Addr) (fc : Nat) (F : List (List Int)) (M : Nat) (w : World) (hx : RwsAt w fo F) (hF : F.length ≤ 8388608) (hM : M ≤ 4194304) (hr : ∀ l ∈ F, l.length ≤ 2 * M) :
    Calls Try.prog 27 #[.slice fo F.length fc, .int .i64 (M : Int)] w fun e w' => ∃ c, e = .returned (.slice (some ⟨c, 0, none⟩) (2 * M + 1) (2 * M + 1)) ∧ w.heap.size ≤ c ∧ IntsBlk w' c (Fa.lens F (2 * M + 1) F.length) ∧ Below w.heap.size w w' := by
  obtain ⟨i0, hi0, hz0, hz1, hz2⟩ := info_parts Try.infoNum
  have HX := Nu.hid hx
  have HR := Nu.hid hr
  obtain ⟨K, hK⟩ : ∃ K, K = F.length := ⟨_, rfl⟩
  obtain ⟨T, hT⟩ : ∃ T, T = 2 * M + 1 := ⟨_, rfl⟩
  obtain ⟨M2, hM2⟩ : ∃ M2, M2 = 2 * M := ⟨_, rfl⟩
  rw [← hK] at hF ⊢
  rw [← hT]
  have HK := Nu.hid hK
  have HT := Nu.hid hT
  have HM2 := Nu.hid hM2
  have q1 : IntKind.i64.wrap ((2 : Int) * (M : Int)) = (M2 : Int) := by rw [IntKind.wrap_i64]; omega
  have q1' : (2 : Int) * (M : Int) = (M2 : Int) := by omega
  have q2 : IntKind.i64.wrap ((M2 : Int) + 1) = (T : Int) := by rw [IntKind.wrap_i64]; omega
  have q2' : (M2 : Int) + 1 = (T : Int) := by omega
  have hTb : T ≤ 8388609 := by omega
  have hmk : ∀ W, (Instr.makeSlice 36 (.int .i64 (T : Int)) (.int .i64 (T : Int))).run Try.prog W = .ok (.slice (some ⟨W.heap.size, 0, none⟩) T T) (W.alloc (.cells (madeCells #[.int .i64 0] T) 3)) := fun W => by
    have := run_make (P := Try.prog) W 36 3 i0 (.int .i64 0) Try.underlying36 hi0 hz0 .i64 .i64 (T : Int) (T : Int) (by omega) (Int.le_refl _) (by rw [hz2]; omega) (by omega)
    rw [this, hz1]
    simp [Value.cells]
  obtain ⟨w1, hw1⟩ : ∃ w1, w1 = w.alloc (.cells (madeCells #[.int .i64 0] T) 3) := ⟨_, rfl⟩
  have hb1 : Below w.heap.size w w1 := by rw [hw1]; exact (Below.refl _ _).alloc (Nat.le_refl _) _
  have HI0 : Hid (IntsBlk w1 w.heap.size (Fa.lens F T 0)) := by rw [hw1, Fa.lens_zero]; exact made_blk rfl
  have HB1 := Nu.hid hb1
  have HW1 := Nu.hid hw1
  clear hx hr hb1 hw1 hK hT hM2
  go_enter Try.func27, Try.ntmps27
  go_wp2
  rw [← HW1.out]
  clear hmk HW1
  go_loopw [6] (fun c wr => ∃ k : Nat, k ≤ K ∧ c = .int .i64 (k : Int) ∧ IntsBlk wr w.heap.size (Fa.lens F T k) ∧ Below w.heap.size w wr) (fun c _ => K - (intOf c).toNat)
  case atStart => exact ⟨0, Nat.zero_le _, rfl, HI0.out, HB1.out⟩
  case round =>
    obtain ⟨k, hk, rfl, hI, hb⟩ := hrel
    obtain ⟨W0, rfl⟩ : ∃ W0, W0 = wr := ⟨_, rfl⟩
    have HI := Nu.hid hI
    have HB := Nu.hid hb
    have hwk : IntKind.i64.wrap ((k : Int) + 1) = (k : Int) + 1 := by rw [IntKind.wrap_i64]; omega
    by_cases hlt : k < K
    · have hlti : (k : Int) < (K : Int) := by omega
      have hk0 : (0 : Int) ≤ (k : Int) := by omega
      obtain ⟨l, hlk⟩ : ∃ l, F[k]? = some l := ⟨_, List.getElem?_eq_getElem (by rw [← HK.out]; exact hlt)⟩
      obtain ⟨b, o, A, C, rfl, hcell, -, -, -, -⟩ := HX.out k l hlk
      have hbl : b < w.heap.size := block_lt_of_cell hcell
      have hcr := (hb.cell (p := ⟨b, o + k, none⟩) hbl).trans hcell
      have hlM := HR.out l (List.mem_of_getElem? hlk)
      obtain ⟨p, hp⟩ : ∃ p, p = l.length := ⟨_, rfl⟩
      rw [← hp] at hcr hlM
      have hpT : p < T := by have := HT.out; omega
      have hz := hI.cell (Fa.lens_at hpT)
      have hfr := hI.free p
      have hcle : Fa.cL F p k ≤ k := Co.cntTo_le _ _
      have HI3 : Hid (IntsBlk (W0.setCell ⟨w.heap.size, p, none⟩ (.int .i64 ((Fa.cL F p k : Int) + 1))) w.heap.size (Fa.lens F T (k + 1))) := by
        have h1 := hI.set p ((Fa.cL F p k : Int) + 1)
        rw [hp, Fa.lens_succ hlk] at h1
        rw [hp]
        exact h1
      have HB3 : Hid (Below w.heap.size w (W0.setCell ⟨w.heap.size, p, none⟩ (.int .i64 ((Fa.cL F p k : Int) + 1)))) := hb.setCell (Nat.le_refl _) _
      obtain ⟨z, hze⟩ : ∃ z, z = Fa.cL F p k := ⟨_, rfl⟩
      rw [← hze] at hz HI3 HB3 hcle
      have wz : IntKind.i64.wrap ((z : Int) + 1) = (z : Int) + 1 := by rw [IntKind.wrap_i64]; omega
      have p0 : (0 : Int) ≤ (p : Int) := by omega
      have p1 : (p : Int) < (T : Int) := by omega
      have p2 : (p : Int) ≤ (M2 : Int) := by have := HM2.out; omega
      have p3 : p ≤ M2 := by have := HM2.out; omega
      clear hI hb hlk hcell hp hlM hze hcle hpT
      go_wp2
      go_roundw
      case rel => exact ⟨k + 1, by omega, by go_num, HI3.out, HB3.out⟩
      case measure => simp [intOf]; omega
    · have hd : ¬ (k : Int) < (K : Int) := by omega
      have hkK : k = K := by omega
      rw [hkK] at hI
      have HIE := Nu.hid hI
      clear hI hb hkK
      go_wp2
      go_ret
      exact ⟨w.heap.size, rfl, Nat.le_refl _, HIE.out, HB.out⟩

end Go.Proofs.Ytfkmldopfhdbkaa
