/-
  Bytes that were a string's: how they last, and how they are made.
-/
import Derived.Test.YtmgjfakdjponoabDoorPaAppend
namespace Go.Proofs.YtmgjfakdjponoabDoor
open Go.RowKit

namespace Pa
theorem itoa_seven {x : Int} (h0 : 0 ≤ x) (h1 : x ≤ 9999999) : (Lib.itoa x).length ≤ 7 := by
  rw [Nu.itoa_small h0]
  have := Nu.nDigits_le 6 x.toNat (by omega)
  simpa [Lib.decDigits_length] using this

theorem row_small {p : Int × Int} (h : (0 ≤ p.1 ∧ p.1 ≤ 1048576) ∧ 0 ≤ p.2 ∧ p.2 ≤ 1048576) : (row p ++ [10]).length ≤ 16 := by
  have h1 := itoa_seven h.1.1 (by omega)
  have h2 := itoa_seven h.2.1 (by omega)
  simp [row]
  omega

theorem lineTo_two (a b : Int) : lineTo (two a b) 2 ++ [10] = row (a, b) ++ [10] := by simp [lineTo, two, row]

theorem body_take (hd : Int × Int) (fit : List (Int × Int)) (k : Nat) (hk : k < fit.length) : body (hd :: fit.take (k + 1)) = body (hd :: fit.take k) ++ (row fit[k] ++ [10]) := by
  rw [List.take_succ_eq_append_getElem hk]
  unfold body
  rw [List.flatMap_cons, List.flatMap_cons, List.flatMap_append]
  simp only [List.flatMap_cons, List.flatMap_nil, List.append_nil, List.append_assoc]

theorem body_more (hd : Int × Int) (fit : List (Int × Int)) : body (hd :: (fit ++ [(0, 0)])) = body (hd :: fit) ++ [48, 32, 48, 10] := by
  have e : Lib.itoa 0 = [48] := by decide +kernel
  unfold body
  rw [List.flatMap_cons, List.flatMap_cons, List.flatMap_append]
  simp [row, e]

theorem body_bound {hd : Int × Int} {fit : List (Int × Int)} (h : ∀ p ∈ fit, (0 ≤ p.1 ∧ p.1 ≤ 1048576) ∧ 0 ≤ p.2 ∧ p.2 ≤ 1048576) : (body (hd :: fit)).length ≤ (row hd ++ [10]).length + 16 * fit.length := by
  induction fit with
  | nil => simp [body]
  | cons p r ih =>
    have h1 := row_small (h p List.mem_cons_self)
    have h2 := ih (fun q hq => h q (List.mem_cons_of_mem _ hq))
    simp [body] at h1 h2 ⊢
    omega
end Pa

theorem OwnB.below {w w' : World} {A B : Nat} {v : Value} {L : List UInt8} (h : OwnB w B v L) (hb : Below A w w') (hA : w.heap.size ≤ A) : OwnB w' B v L := by
  obtain ⟨g, cap, cur, fz, e, hB, hh, hr⟩ := h
  exact ⟨g, cap, cur, fz, e, hB, (hb.block g (by have := lt_of_block hh; omega)).trans hh, hr⟩

theorem ints_two (W : World) (k : Nat) (hk : W.heap.size = k) (a b : Int) (ha : -9223372036854775808 ≤ a ∧ a ≤ 9223372036854775807) (hb : -9223372036854775808 ≤ b ∧ b ≤ 9223372036854775807) :
    HasInts (W.alloc (.cells #[.int .i64 a, .int .i64 b] 3)) (some ⟨k, 0, none⟩) 2 (Pa.two a b) := fun i hi => by
  subst hk
  rcases (show i = 0 ∨ i = 1 by omega) with rfl | rfl
  · exact ⟨by simpa [Pa.two] using ha, _, _, rfl, by simp [Pa.two]⟩
  · exact ⟨by simpa [Pa.two] using hb, _, _, rfl, by simp [Pa.two]⟩

/-- Bytes that were a string's, just made. -/
theorem ownB_new (w : World) (L : List UInt8) (h : L.length ≤ 1000) : OwnB (Lib.bytesWorld w 5 ⟨L.toArray⟩) w.heap.size (.slice (some ⟨w.heap.size, 0, none⟩) L.length (grownCap w L.length 0 5)) L ∧ Below w.heap.size w (Lib.bytesWorld w 5 ⟨L.toArray⟩) := by
  have hsz : (⟨L.toArray⟩ : ByteArray).size = L.length := by simp [ByteArray.size]
  have hge := grownCap_ge w L.length 0 5
  have hcm : grownCap w L.length 0 5 ≤ maxLen := grownCap_le_maxLen w L.length 0 5 (by unfold maxLen; omega)
  have hcs : (Lib.bytesCells w 5 ⟨L.toArray⟩).size = grownCap w L.length 0 5 := by
    unfold Lib.bytesCells
    rw [hsz]
    simp
    omega
  refine ⟨⟨w.heap.size, _, _, _, rfl, Nat.le_refl _, Lib.bytesWorld_at_new w _ _, .inr (Nat.le_refl _), hge, hcm, hcs, ?_⟩, ?_⟩
  · unfold Lib.bytesCells
    rw [hsz]
    have e : (Array.map (fun b : UInt8 => Value.int .u8 (b.toNat : Int)) L.toArray).toList = Lib.byteCells L := by simp [Lib.byteCells]
    have e2 : L.length = (Lib.byteCells L).length := by simp [Lib.byteCells]
    rw [Array.toList_append, e]
    conv => lhs; rw [e2]
    exact List.take_left
  · exact ⟨rfl, rfl, rfl, by rw [Lib.bytesWorld_size]; omega, fun k hk => Lib.bytesWorld_at_old w _ _ k hk⟩

end Go.Proofs.YtmgjfakdjponoabDoor
