/-
  How great the answers about faces may be.
-/
import Derived.Test.YtfkmldopfhdbkaaMg18
namespace Go.Proofs.Ytfkmldopfhdbkaa
namespace Fa

theorem all_row {N : Nat} {es : List (Int × Int)} {ls : List (List Int)} (h : Ro.Rot N es ls) : (all es ls).length ≤ 8388608 ∧ ∀ l ∈ all es ls, l.length ≤ 8388608 := by
  have hv := val_of h
  have hfew := hv.few
  obtain ⟨m, hm⟩ := orb_ex (ph_per h)
  refine ⟨?_, fun l hl => ?_⟩
  · have e : (all es ls).length = Co.cnt (2 * es.length) m := facesZ_len (ph_per h) hm
    have := Co.cnt_le (2 * es.length) m
    omega
  · unfold all facesZ at hl
    obtain ⟨l0, h0, rfl⟩ := List.mem_map.1 hl
    rw [zl_len]
    obtain ⟨j, hj⟩ := List.getElem?_of_mem h0
    obtain ⟨r, hr, -, rfl, -⟩ := face_at (ph_per h) hm hj
    obtain ⟨p, hp⟩ := len_ex (ph_per h) hr
    rw [face_way hp, way_len]
    have := hp.le
    omega
theorem small {n : Int} {es : List (Int × Int)} {ls : List (List Int)} : (orN (Ro.check n es ls).2 (all es ls)).length ≤ 4611686018427387904 ∧ (∀ l ∈ orN (Ro.check n es ls).2 (all es ls), l.length ≤ 4611686018427387904) ∧ (orN (Ro.check n es ls).2 (left es ls)).length ≤ 4611686018427387904 := by
  by_cases h : (Ro.check n es ls).2 = 0
  · rw [orN_ok h, orN_ok h]
    have hr := Ro.check_iff.1 h
    have hv := Si.valid_iff.1 hr.val
    have hfew := hv.few
    obtain ⟨N, rfl⟩ : ∃ N : Nat, n = (N : Int) := ⟨n.toNat, by have := hv.lo; omega⟩
    obtain ⟨h1, h2⟩ := all_row hr
    refine ⟨by omega, fun l hl => by have := h2 l hl; omega, ?_⟩
    rw [left_len]
    omega
  · rw [orN_bad h, orN_bad h]
    exact ⟨by simp, fun l hl => by simp at hl, by simp⟩
end Fa
open Go.RowKit
theorem same3_own {w : World} {B B' : Nat} {a a' : Option Addr} {c c' : Nat} {l : List Int} (h : OwnZ w B (.slice a l.length c) l) (h' : OwnZ w B' (.slice a' l.length c') l) (hl : l.length ≤ 4611686018427387904) :
    Calls Try.prog 17 #[.slice a l.length c, .slice a' l.length c'] w fun e w' => e = .returned (.bool true) ∧ Below w.heap.size w w' := by
  obtain ⟨a1, d1, e1, h1, -⟩ := h.form
  cases e1
  obtain ⟨a2, d2, e2, h2, -⟩ := h'.form
  cases e2
  refine (sameints_any a a' c c' l.length l.length l l w rfl rfl h1 h2 hl).mono ?_
  rintro e w' ⟨e1, hb⟩
  exact ⟨by rw [e1]; simp, hb⟩
end Go.Proofs.Ytfkmldopfhdbkaa
