import Derived.Test.YtdhaaodalchpkaaKin
import Derived.Test.YtdhaaodalchpkaaMgB
import Derived.Laws.AppendOwnNone
import Derived.Laws.AppendOwn
/-
  Slices of ints that came in, and what the second form's bound gives.
-/
namespace Go.Proofs.Ytdhaaodalchpkaa
open Go.ChangeShapes Go.WideShapes Go.ChangeAt Go.RowKit

theorem wf_i64 {n : Int} (h : (Lit.int .i64 n).wf = true) : -9223372036854775808 ≤ n ∧ n ≤ 9223372036854775807 := by simpa using bounds_i64 h

theorem IsRow.wf {k : IntKind} {bytes : Nat} {w : World} {a : Option Addr} {len cap : Nat} {zs : List Int} (h : IsRow k bytes w a len cap zs) {i : Nat} (hi : i < len) : (Lit.int k (zs.getD i 0)).wf = true := by
  rcases h with ⟨_, rfl, _⟩ | ⟨x, rfl, hl, hm, hz, hc, hw⟩
  · omega
  · have hlt : i < zs.length := by omega
    have hm : zs.getD i 0 ∈ zs := by rw [List.getD_eq_getElem?_getD, List.getElem?_eq_getElem hlt]; simp
    exact hw _ hm

theorem IsRow.int_at {w : World} {a : Option Addr} {len cap : Nat} {zs : List Int} (h : IsRow .i64 8 w a len cap zs) {i : Nat} (hi : i < len) : ∃ b o, a = some ⟨b, o, none⟩ ∧ w.cell? ⟨b, o + i, none⟩ = some (.int .i64 (zs.getD i 0)) ∧ -9223372036854775808 ≤ zs.getD i 0 ∧ zs.getD i 0 ≤ 9223372036854775807 := by
  have hw := wf_i64 (h.wf hi)
  rcases h with ⟨_, rfl, _⟩ | ⟨x, rfl, hl, hm, hz, hc, _⟩
  · omega
  · have hlt : i < zs.length := by omega
    have hci := hc i hlt
    obtain ⟨b, o, sp⟩ := x
    have hsp : sp = none := by simpa [Addr.add] using World.cell?_spot (hc 0 (by omega))
    subst hsp
    refine ⟨b, o, rfl, ?_, hw⟩
    have e : ((⟨b, o, none⟩ : Addr).add i) = ⟨b, o + i, none⟩ := by
      by_cases h0 : i = 0 <;> simp [Addr.add, h0]
    rw [e] at hci
    exact hci

theorem bulk_one {H : Type} (d : DataW H) : 1 ≤ Rows.uptoBulk d := by
  cases d with
  | lit l => cases l <;> simp [Rows.uptoBulk]
  | nil => simp [Rows.uptoBulk]
  | ptr d => simp [Rows.uptoBulk]
  | slice elems spare => simp [Rows.uptoBulk]
  | agg parts => simp [Rows.uptoBulk]
  | iface t d => simp [Rows.uptoBulk]
  | map entries => simp [Rows.uptoBulk]
  | held h => simp [Rows.uptoBulk]

theorem bulk_part {H : Type} {d : DataW H} {l : List (DataW H)} (h : d ∈ l) : Rows.uptoBulk d ≤ Rows.uptoBulkAll l := by
  induction l with
  | nil => cases h
  | cons x r ih =>
    simp only [Rows.uptoBulkAll]
    cases List.mem_cons.1 h with
    | inl e => subst e; omega
    | inr e => have := ih e; omega

theorem bulk_length {H : Type} (l : List (DataW H)) : l.length ≤ Rows.uptoBulkAll l := by
  induction l with
  | nil => simp [Rows.uptoBulkAll]
  | cons x r ih => have := bulk_one x; simp only [Rows.uptoBulkAll, List.length_cons]; omega

theorem IsRow.upto {H : Type} {enc : TypeId × Value → H} {W : World} {t e : TypeId} {k : IntKind} {a : Option Addr} {len cap : Nat} {d : DataW H} {p : List MemPlace} {ds : List (DataW H)} (hk : Rows.uptoSmall H ds = true) {j : Nat}
    (ht : Try.prog.underlying t = some (.slice e)) (he : Try.prog.underlying e = some (.int k)) (hc : Try.prog.cellsOf e = 1)
    (h : DataW.Trod enc Try.prog W 0 (fun _ => true) true t (.slice a len cap) d p) (hds : ds[j]? = some d) : len ≤ 1048576 := by
  have hb := of_decide_eq_true hk
  have hp := bulk_part (List.mem_of_getElem? hds)
  obtain ⟨fuel, hf⟩ := h
  rcases open_ints ht he hc hf with ⟨hcs, _⟩ | ⟨x, l, c, zs, hcs, _, hl, hm, hz, hx, hcell, hwz⟩
  · simp [Value.cells] at hcs
    omega
  · simp [Value.cells] at hcs
    obtain ⟨rfl, rfl, rfl⟩ := hcs
    simp only [Prod.mk.injEq] at hx
    obtain ⟨rfl, _⟩ := hx
    have hz' : zs.length = cap := by simpa using hz
    have h1 := bulk_length (H := H) (lits k (zs.take len))
    simp only [Rows.uptoBulk] at hp
    simp only [lits, List.length_map, List.length_take] at h1
    simp only [lits] at hp
    omega

end Go.Proofs.Ytdhaaodalchpkaa

/-
  Lists of ints wherever they lie; copies of them.
-/
namespace Go.Proofs.Ytdhaaodalchpkaa
open Go.RowKit

/-- A list of the ints l, wherever it lies; nil has no room. -/
structure Lst (w : World) (ao : Option Addr) (n ca : Nat) (l : List Int) : Prop where
  len : l.length = n
  ints : IntsAt w ao l
  none : ao = none → n = 0 ∧ ca = 0

section
variable {w w' : World} {ao : Option Addr} {n ca : Nat} {l : List Int}
theorem Lst.later (h : Lst w ao n ca l) (hb : Below w.heap.size w w') : Lst w' ao n ca l := ⟨h.len, h.ints.later hb, h.none⟩
theorem IntsBlk.lst {g : Nat} (h : IntsBlk w g l) (hl : l.length = n) : Lst w (some ⟨g, 0, .none⟩) n ca l := ⟨hl, h.at, fun e => by cases e⟩
theorem OwnZ.lst {B : Nat} {v : Value} (h : OwnZ w B v l) : ∃ ao ca, v = .slice ao l.length ca ∧ Lst w ao l.length ca l ∧ (∀ x, ao = some x → B ≤ x.block ∧ x.block < w.heap.size) := by
  rcases h.2 with ⟨rfl, h0⟩ | ⟨g, cap, cur, rfl, hB, hh, _⟩
  · refine ⟨.none, 0, by rw [h0], ⟨rfl, fun j x hj => ?_, fun _ => ⟨h0, rfl⟩⟩, fun x hx => by cases hx⟩
    have := (List.getElem?_eq_some_iff.1 hj).1
    omega
  · obtain ⟨ao, ca, e, ha, hb⟩ := h.form
    cases e
    exact ⟨_, _, rfl, ⟨rfl, ha, fun e => by cases e⟩, hb⟩
end

/-- 'append([]int{}, xs...)': a copy in new memory, of a list wherever it lies. -/
theorem wpList_copy_lst {ops : Array Oper} {rest : List Oper} {o : Oper} {a : Act} {Q : Exit → Act → World → Prop} (hgd : o.guard = none) (s x : Operand)
    (ho : o.op = .call { callee := .builtin .append, args := #[s, x], argTypes := #[36, 36] }) (W : World) (ao : Option Addr) (n ca : Nat) (l : List Int) (hs : a.eval s = .slice (some ⟨W.heap.size, 0, none⟩) 0 0) (hx : a.eval x = .slice ao n ca)
    (hr : Lst W ao n ca l) (hn : n ≤ 17592186043904)
    (h : ∀ gb c w', w'.ownsRow W.heap.size 3 1 (.slice (some ⟨gb, 0, none⟩) n c) n (l.map (Value.int .i64)) → W.heap.size ≤ gb → gb < w'.heap.size → n ≤ c → Below W.heap.size W w' → wpList Try.prog ops Q rest (a.put o.dst (.slice (some ⟨gb, 0, none⟩) n c)) w') :
    wpList Try.prog ops Q (o :: rest) a (W.alloc (.cells #[] 3)) := by
  obtain ⟨i0, hi, hz0, hz1, hz2⟩ := info_parts Try.infoNum
  have hown0 : (W.alloc (.cells #[] 3)).ownsRow W.heap.size 3 1 (.slice (some ⟨W.heap.size, 0, none⟩) 0 0) 0 [] := World.ownsRow_made W #[] 0 (Nat.le_refl _) (Nat.zero_le _) rfl
  have hb0 : Below W.heap.size W (W.alloc (.cells #[] 3)) := (Below.refl _ _).alloc (Nat.le_refl _) _
  rcases ao with _ | y
  · obtain ⟨rfl, rfl⟩ := hr.none rfl
    have hl : l = [] := List.length_eq_zero_iff.1 hr.len
    subst hl
    refine wpList_append_own_none hgd s x 36 ho W.heap.size 3 i0 1 Try.underlying36 hi _ 0 [] hs hown0 hx ?_
    exact h _ _ _ hown0 (Nat.le_refl _) (by simp) (Nat.le_refl _) hb0
  · refine wpList_append_own _ hgd s x 36 ho W.heap.size 3 i0 (.int .i64 0) 1 8 Try.underlying36 hi hz0 hz1 hz2 rfl (by decide) _ 0 [] hs hown0 y n ca (l.map (Value.int .i64)) hx (by rw [List.length_map, hr.len]; omega) ?_ (ints_oneCell .i64 _) (by unfold maxLen; omega) (by rw [Nat.zero_add]; omega) (by simp) ?_
    · intro j u hj
      rw [List.getElem?_map] at hj
      cases hlj : l[j]? with
      | none => rw [hlj] at hj; cases hj
      | some z =>
        rw [hlj] at hj
        obtain rfl := Option.some.inj hj
        obtain ⟨b, o', e, hc⟩ := hr.ints j z hlj
        cases e
        have ea : ((⟨b, o', none⟩ : Addr).add j) = ⟨b, o' + j, none⟩ := by
          by_cases h0 : j = 0 <;> simp [Addr.add, h0]
        rw [ea]
        exact (World.grownBy_alloc W _ none).cell hc (by simp)
    · intro v' w' hown' hg hiff
      rw [Nat.zero_add, List.nil_append] at hown'
      rcases hown'.2 with ⟨hnil, _⟩ | ⟨gb, c, cur, rfl, hgb, hh, hlc, _⟩
      · have := (hiff.1 hnil).1
        cases this
      · exact h gb c w' hown' hgb (lt_of_block hh) hlc (hb0.grown hg (by simp) (fun q hq => by cases hq; exact Nat.le_refl _))

theorem IsRow.lst {w : World} {a : Option Addr} {len cap : Nat} {zs : List Int} (h : IsRow .i64 8 w a len cap zs) : Lst w a len cap (zs.take len) := by
  refine ⟨h.take, fun j z hj => ?_, fun e => ?_⟩
  · rcases h with ⟨_, rfl, _, rfl⟩ | ⟨x, rfl, hl, hm, hz, hc, hw⟩
    · simp at hj
    · rw [List.getElem?_take] at hj
      by_cases hjl : j < len
      · rw [if_pos hjl] at hj
        have hlt : j < zs.length := by omega
        have hci := hc j hlt
        rw [List.getD_eq_getElem?_getD, hj] at hci
        obtain ⟨b, o, sp⟩ := x
        have hsp : sp = none := by simpa [Addr.add] using World.cell?_spot (hc 0 (by omega))
        subst hsp
        refine ⟨b, o, rfl, ?_⟩
        have e : ((⟨b, o, none⟩ : Addr).add j) = ⟨b, o + j, none⟩ := by
          by_cases h0 : j = 0 <;> simp [Addr.add, h0]
        rw [e] at hci
        exact hci
      · rw [if_neg hjl] at hj
        cases hj
  · rcases h with ⟨_, h1, h2, _⟩ | ⟨x, h1, _⟩
    · exact ⟨h1, h2⟩
    · rw [h1] at e; cases e

theorem IsRow.few {w : World} {a : Option Addr} {len cap : Nat} {zs : List Int} (h : IsRow .i64 8 w a len cap zs) : len ≤ 17592186043904 := by
  have := h.small
  omega

theorem row_lst {w : World} {B g n c : Nat} {l : List Int} (h : w.ownsRow B 3 1 (.slice (some ⟨g, 0, none⟩) n c) n (l.map (Value.int .i64))) (hl : l.length = n) : Lst w (some ⟨g, 0, none⟩) n c l := by
  have hi := ints_in_row h
  exact ⟨hl, fun j x hj => ⟨g, 0, rfl, by rw [Nat.zero_add]; exact hi.cell hj⟩, fun e => by cases e⟩

end Go.Proofs.Ytdhaaodalchpkaa

/-
  A list of one's own and another one behind it.
-/
namespace Go.Proofs.Ytdhaaodalchpkaa
open Go.RowKit

/-- 'append(v, xs...)', v a list of one's own. -/
theorem wpList_extend {ops : Array Oper} {rest : List Oper} {o : Oper} {a : Act} {Q : Exit → Act → World → Prop} (hgd : o.guard = none) (s x : Operand)
    (ho : o.op = .call { callee := .builtin .append, args := #[s, x], argTypes := #[36, 36] }) (W : World) (B : Nat) (v : Value) (l xs : List Int) (hown : OwnZ W B v l) (xo : Option Addr) (xn xc : Nat) (hx0 : Lst W xo xn xc xs)
    (hB : B ≤ W.heap.size) (hl : l.length + xs.length ≤ 17592186044000) (hs : a.eval s = v) (hx : a.eval x = .slice xo xn xc)
    (h : ∀ v' w', OwnZ w' B v' (l ++ xs) → Below B W w' → wpList Try.prog ops Q rest (a.put o.dst v') w') :
    wpList Try.prog ops Q (o :: rest) a W := by
  obtain ⟨i0, hi, hz0, hz1, hz2⟩ := info_parts Try.infoNum
  rcases xo with _ | y
  · obtain ⟨rfl, rfl⟩ := hx0.none rfl
    have e : xs = [] := List.length_eq_zero_iff.1 hx0.len
    subst e
    refine wpList_append_own_none hgd s x 36 ho B 3 i0 1 Try.underlying36 hi v l.length (l.map (Value.int .i64)) hs hown hx ?_
    exact h v W (by rw [List.append_nil]; exact hown) (Below.refl _ _)
  · have hxl := hx0.len
    refine wpList_append_own W hgd s x 36 ho B 3 i0 (.int .i64 0) 1 8 Try.underlying36 hi hz0 hz1 hz2 rfl (by decide) v l.length (l.map (Value.int .i64)) hs hown y xn xc (xs.map (Value.int .i64)) hx (by rw [List.length_map, hx0.len]; omega) ?_ (ints_oneCell .i64 _) (by unfold maxLen; omega) (by omega) hB ?_
    · intro j u hj
      rw [List.getElem?_map] at hj
      cases hlj : xs[j]? with
      | none => rw [hlj] at hj; cases hj
      | some z =>
        rw [hlj] at hj
        obtain rfl := Option.some.inj hj
        obtain ⟨b, o', e, hc⟩ := hx0.ints j z hlj
        cases e
        have ea : ((⟨b, o', none⟩ : Addr).add j) = ⟨b, o' + j, none⟩ := by
          by_cases h0 : j = 0 <;> simp [Addr.add, h0]
        rw [ea]
        exact hc
    · intro v' w' hown' hg _
      refine h v' w' ?_ ((Below.refl B W).grown hg hB (fun b hb => (World.ownsRow.lt hown b hb).1))
      unfold OwnZ
      rw [List.length_append, List.map_append, hxl]
      exact hown'

end Go.Proofs.Ytdhaaodalchpkaa
