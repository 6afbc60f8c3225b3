/-
  Lists of keys that came in; copies of them.
-/
import Derived.Test.YtofphdmebjcofaaDoorBuFix
import Derived.Test.YtofphdmebjcofaaDoorKin
import Derived.Test.YtofphdmebjcofaaDoorKinInts
namespace Go.Proofs.YtofphdmebjcofaaDoor
open Go.RowKit

theorem IsRow.lst {w : World} {a : Option Addr} {len cap : Nat} {zs : List Int} (h : IsRow .i64 8 w a len cap zs) : Lst w a len cap (zs.take len) := by
  refine ⟨h.take, fun j z hj => ?_, fun e => ?_⟩
  · rcases h with ⟨_, rfl, _, rfl⟩ | ⟨x, rfl, hl, hm, hz, hc, hw⟩
    · simp at hj
    · rw [List.getElem?_take] at hj
      by_cases hjl : j < len
      · rw [if_pos hjl] at hj
        have hlt : j < zs.length := by omega
        have hci := hc j hlt
        rw [List.getD_eq_getElem?_getD, hj] at hci
        obtain ⟨b, o, sp⟩ := x
        have hsp : sp = none := by simpa [Addr.add] using World.cell?_spot (hc 0 (by omega))
        subst hsp
        refine ⟨b, o, rfl, ?_⟩
        have e : ((⟨b, o, none⟩ : Addr).add j) = ⟨b, o + j, none⟩ := by
          by_cases h0 : j = 0 <;> simp [Addr.add, h0]
        rw [e] at hci
        exact hci
      · rw [if_neg hjl] at hj
        cases hj
  · rcases h with ⟨_, h1, h2, _⟩ | ⟨x, h1, _⟩
    · exact ⟨h1, h2⟩
    · rw [h1] at e; cases e

theorem IsRow.few {w : World} {a : Option Addr} {len cap : Nat} {zs : List Int} (h : IsRow .i64 8 w a len cap zs) : len ≤ 17592186043904 := by
  have := h.small
  omega

theorem row_lst {w : World} {B g n c : Nat} {l : List Int} (h : w.ownsRow B 3 1 (.slice (some ⟨g, 0, none⟩) n c) n (l.map (Value.int .i64))) (hl : l.length = n) : Lst w (some ⟨g, 0, none⟩) n c l := by
  have hi := ints_in_row h
  exact ⟨hl, fun j x hj => ⟨g, 0, rfl, by rw [Nat.zero_add]; exact hi.cell hj⟩, fun e => by cases e⟩

theorem same_lst {w : World} {ao bo : Option Addr} {n m ca cb : Nat} {l l' : List Int} (h : Lst w ao n ca l) (h' : Lst w bo m cb l') (hn : n ≤ 17592186043904) :
    Calls Tryd.prog 14 #[.slice ao n ca, .slice bo m cb] w fun e w' => e = .returned (.bool (decide (l = l'))) ∧ Below w.heap.size w w' :=
  sameints_any ao bo ca cb n m l l' w h.len h'.len h.ints h'.ints (by omega)

theorem same_true {w : World} {ao bo : Option Addr} {n m ca cb : Nat} {l : List Int} (h : Lst w ao n ca l) (h' : Lst w bo m cb l) (hn : n ≤ 17592186043904) :
    Calls Tryd.prog 14 #[.slice ao n ca, .slice bo m cb] w fun e w' => e = .returned (.bool true) ∧ Below w.heap.size w w' :=
  (same_lst h h' hn).mono (by
    rintro e w' ⟨h1, h2⟩
    rw [decide_eq_true rfl] at h1
    exact ⟨h1, h2⟩)

end Go.Proofs.YtofphdmebjcofaaDoor
