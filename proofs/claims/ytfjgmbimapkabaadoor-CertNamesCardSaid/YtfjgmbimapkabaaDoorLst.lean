/-
  Lists of ints wherever they lie; copies of them.
-/
import Derived.Test.YtfjgmbimapkabaaDoorKinInts
namespace Go.Proofs.YtfjgmbimapkabaaDoor
open Go.RowKit

/-- A list of the ints l, wherever it lies; nil has no room. -/
structure Lst (w : World) (ao : Option Addr) (n ca : Nat) (l : List Int) : Prop where
  len : l.length = n
  ints : IntsAt w ao l
  none : ao = none → n = 0 ∧ ca = 0

section
variable {w w' : World} {ao : Option Addr} {n ca : Nat} {l : List Int}
theorem Lst.later (h : Lst w ao n ca l) (hb : Below w.heap.size w w') : Lst w' ao n ca l := ⟨h.len, h.ints.later hb, h.none⟩
theorem IntsBlk.lst {g : Nat} (h : IntsBlk w g l) (hl : l.length = n) : Lst w (some ⟨g, 0, .none⟩) n ca l := ⟨hl, h.at, fun e => by cases e⟩
theorem OwnZ.lst {B : Nat} {v : Value} (h : OwnZ w B v l) : ∃ ao ca, v = .slice ao l.length ca ∧ Lst w ao l.length ca l ∧ (∀ x, ao = some x → B ≤ x.block ∧ x.block < w.heap.size) := by
  rcases h.2 with ⟨rfl, h0⟩ | ⟨g, cap, cur, rfl, hB, hh, _⟩
  · refine ⟨.none, 0, by rw [h0], ⟨rfl, fun j x hj => ?_, fun _ => ⟨h0, rfl⟩⟩, fun x hx => by cases hx⟩
    have := (List.getElem?_eq_some_iff.1 hj).1
    omega
  · obtain ⟨ao, ca, e, ha, hb⟩ := h.form
    cases e
    exact ⟨_, _, rfl, ⟨rfl, ha, fun e => by cases e⟩, hb⟩
end

/-- 'append([]int{}, xs...)': a copy in new memory, of a list wherever it lies. -/
theorem wpList_copy_lst {ops : Array Oper} {rest : List Oper} {o : Oper} {a : Act} {Q : Exit → Act → World → Prop} (hgd : o.guard = none) (s x : Operand)
    (ho : o.op = .call { callee := .builtin .append, args := #[s, x], argTypes := #[34, 34] }) (W : World) (ao : Option Addr) (n ca : Nat) (l : List Int) (hs : a.eval s = .slice (some ⟨W.heap.size, 0, none⟩) 0 0) (hx : a.eval x = .slice ao n ca)
    (hr : Lst W ao n ca l) (hn : n ≤ 17592186043904)
    (h : ∀ gb c w', w'.ownsRow W.heap.size 3 1 (.slice (some ⟨gb, 0, none⟩) n c) n (l.map (Value.int .i64)) → W.heap.size ≤ gb → gb < w'.heap.size → n ≤ c → Below W.heap.size W w' → wpList Tryd.prog ops Q rest (a.put o.dst (.slice (some ⟨gb, 0, none⟩) n c)) w') :
    wpList Tryd.prog ops Q (o :: rest) a (W.alloc (.cells #[] 3)) := by
  obtain ⟨i0, hi, hz0, hz1, hz2⟩ := info_parts Tryd.infoNum
  have hown0 : (W.alloc (.cells #[] 3)).ownsRow W.heap.size 3 1 (.slice (some ⟨W.heap.size, 0, none⟩) 0 0) 0 [] := World.ownsRow_made W #[] 0 (Nat.le_refl _) (Nat.zero_le _) rfl
  have hb0 : Below W.heap.size W (W.alloc (.cells #[] 3)) := (Below.refl _ _).alloc (Nat.le_refl _) _
  rcases ao with _ | y
  · obtain ⟨rfl, rfl⟩ := hr.none rfl
    have hl : l = [] := List.length_eq_zero_iff.1 hr.len
    subst hl
    refine wpList_append_own_none hgd s x 34 ho W.heap.size 3 i0 1 Tryd.underlying34 hi _ 0 [] hs hown0 hx ?_
    exact h _ _ _ hown0 (Nat.le_refl _) (by simp) (Nat.le_refl _) hb0
  · refine wpList_append_own _ hgd s x 34 ho W.heap.size 3 i0 (.int .i64 0) 1 8 Tryd.underlying34 hi hz0 hz1 hz2 rfl (by decide) _ 0 [] hs hown0 y n ca (l.map (Value.int .i64)) hx (by rw [List.length_map, hr.len]; omega) ?_ (ints_oneCell .i64 _) (by unfold maxLen; omega) (by rw [Nat.zero_add]; omega) (by simp) ?_
    · intro j u hj
      rw [List.getElem?_map] at hj
      cases hlj : l[j]? with
      | none => rw [hlj] at hj; cases hj
      | some z =>
        rw [hlj] at hj
        obtain rfl := Option.some.inj hj
        obtain ⟨b, o', e, hc⟩ := hr.ints j z hlj
        cases e
        have ea : ((⟨b, o', none⟩ : Addr).add j) = ⟨b, o' + j, none⟩ := by
          by_cases h0 : j = 0 <;> simp [Addr.add, h0]
        rw [ea]
        exact (World.grownBy_alloc W _ none).cell hc (by simp)
    · intro v' w' hown' hg hiff
      rw [Nat.zero_add, List.nil_append] at hown'
      rcases hown'.2 with ⟨hnil, _⟩ | ⟨gb, c, cur, rfl, hgb, hh, hlc, _⟩
      · have := (hiff.1 hnil).1
        cases this
      · exact h gb c w' hown' hgb (lt_of_block hh) hlc (hb0.grown hg (by simp) (fun q hq => by cases hq; exact Nat.le_refl _))

theorem IsRow.lst {w : World} {a : Option Addr} {len cap : Nat} {zs : List Int} (h : IsRow .i64 8 w a len cap zs) : Lst w a len cap (zs.take len) := by
  refine ⟨h.take, fun j z hj => ?_, fun e => ?_⟩
  · rcases h with ⟨_, rfl, _, rfl⟩ | ⟨x, rfl, hl, hm, hz, hc, hw⟩
    · simp at hj
    · rw [List.getElem?_take] at hj
      by_cases hjl : j < len
      · rw [if_pos hjl] at hj
        have hlt : j < zs.length := by omega
        have hci := hc j hlt
        rw [List.getD_eq_getElem?_getD, hj] at hci
        obtain ⟨b, o, sp⟩ := x
        have hsp : sp = none := by simpa [Addr.add] using World.cell?_spot (hc 0 (by omega))
        subst hsp
        refine ⟨b, o, rfl, ?_⟩
        have e : ((⟨b, o, none⟩ : Addr).add j) = ⟨b, o + j, none⟩ := by
          by_cases h0 : j = 0 <;> simp [Addr.add, h0]
        rw [e] at hci
        exact hci
      · rw [if_neg hjl] at hj
        cases hj
  · rcases h with ⟨_, h1, h2, _⟩ | ⟨x, h1, _⟩
    · exact ⟨h1, h2⟩
    · rw [h1] at e; cases e

theorem IsRow.few {w : World} {a : Option Addr} {len cap : Nat} {zs : List Int} (h : IsRow .i64 8 w a len cap zs) : len ≤ 17592186043904 := by
  have := h.small
  omega

theorem row_lst {w : World} {B g n c : Nat} {l : List Int} (h : w.ownsRow B 3 1 (.slice (some ⟨g, 0, none⟩) n c) n (l.map (Value.int .i64))) (hl : l.length = n) : Lst w (some ⟨g, 0, none⟩) n c l := by
  have hi := ints_in_row h
  exact ⟨hl, fun j x hj => ⟨g, 0, rfl, by rw [Nat.zero_add]; exact hi.cell hj⟩, fun e => by cases e⟩

end Go.Proofs.YtfjgmbimapkabaaDoor
