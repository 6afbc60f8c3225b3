import Derived.Test.YtfkmldopfhdbkaaRows
import Derived.Test.YtfkmldopfhdbkaaMg03
import Derived.ProofKit
import Derived.OpenShut
import Derived.SizedLaws
import Derived.Deep.DeepHandedRow
import Derived.Lib.LaidTab
import Derived.Laws.AppendOwnNone
import Derived.Test.YtfkmldopfhdbkaaMg07
import Derived.Test.YtfkmldopfhdbkaaMg02
import Derived.Deep.RegionHeld3
import Derived.Lib.SliceRun
/-
  What the rows have in common: a slice of integers that came in, copies of it in new memory, and the small closed facts.
-/
namespace Go.Proofs.Ytfkmldopfhdbkaa
open Go.ChangeShapes Go.WideShapes Go.ChangeAt Go.RowKit

theorem own : ownKnob Try.prog.godebug = none := by kernel_rfl
theorem laidOut : laidOutB Try.prog = true := by kernel_rfl
theorem cellsU8 : Try.prog.cellsOf 5 = 1 := by kernel_rfl
theorem cellsInt : Try.prog.cellsOf 3 = 1 := by kernel_rfl
theorem bytesU8 : Try.prog.bytesOf 5 = 1 := by kernel_rfl
theorem bytesInt : Try.prog.bytesOf 3 = 8 := by kernel_rfl
theorem Try.infoU8 : (Try.prog.info? 5).map (fun i => (i.zero, i.size, i.bytes)) = some (some (.int .u8 0), 1, 1) := by kernel_rfl

/-- A world for the witness. -/
noncomputable def settled (os : Os) : World := World.holding Try.prog os ⟨#[], #[], []⟩

/-- A slice of integers that came in: nil, or cap cells, the numbers zs, the first len of which are its elements; it takes at most the reach. -/
def IsRow (k : IntKind) (bytes : Nat) (w : World) (a : Option Addr) (len cap : Nat) (zs : List Int) : Prop :=
  (a = none ∧ len = 0 ∧ cap = 0 ∧ zs = []) ∨
  ∃ x, a = some x ∧ len ≤ cap ∧ cap * bytes ≤ 140737488351232 ∧ zs.length = cap ∧ (∀ i, i < zs.length → w.cell? (x.add i) = some (.int k (zs.getD i 0))) ∧ ∀ n ∈ zs, (Lit.int k n).wf = true

theorem IsRow.of_trod {H : Type} {enc : TypeId × Value → H} {W : World} {t e : TypeId} {k : IntKind} {a : Option Addr} {len cap : Nat} {d : DataW H} {p : List MemPlace} {ts : List TypeId} {ds : List (DataW H)} {j bytes : Nat}
    (ht : Try.prog.underlying t = some (.slice e)) (he : Try.prog.underlying e = some (.int k)) (hc : Try.prog.cellsOf e = 1) (hby : Try.prog.bytesOf e = bytes)
    (h : DataW.Trod enc Try.prog W 0 (fun _ => true) true t (.slice a len cap) d p) (hsz : (DataW.weightsEach Try.prog ts ds).all (· ≤ reachBytes) = true) (hts : ts[j]? = some t) (hds : ds[j]? = some d) :
    ∃ zs, IsRow k bytes W a len cap zs := by
  obtain ⟨fuel, hf⟩ := h
  rcases open_ints ht he hc hf with ⟨hcs, _⟩ | ⟨x, l, c, zs, hcs, _, hl, hm, hz, hx, hcell, hwz⟩
  · simp [Value.cells] at hcs
    obtain ⟨rfl, rfl, rfl⟩ := hcs
    exact ⟨[], .inl ⟨rfl, rfl, rfl, rfl⟩⟩
  · simp [Value.cells] at hcs
    obtain ⟨rfl, rfl, rfl⟩ := hcs
    simp only [Prod.mk.injEq] at hx
    obtain ⟨rfl, _⟩ := hx
    have hw := sized_slice hsz hts hds ht
    have hz' : zs.length = cap := by simpa using hz
    rw [hby] at hw
    simp only [lits, List.length_map, List.length_take, List.length_drop, reachBytes] at hw
    have e1 : min len zs.length + (zs.length - len) = cap := by omega
    rw [e1] at hw
    exact ⟨zs, .inr ⟨_, rfl, hl, hw, hz', hcell, hwz⟩⟩

theorem IsRow.take {k : IntKind} {bytes : Nat} {w : World} {a : Option Addr} {len cap : Nat} {zs : List Int} (h : IsRow k bytes w a len cap zs) : (zs.take len).length = len := by
  rcases h with ⟨_, rfl, _, rfl⟩ | ⟨_, _, hl, _, hz, _⟩
  · rfl
  · simp; omega

theorem IsRow.small {k : IntKind} {bytes : Nat} {w : World} {a : Option Addr} {len cap : Nat} {zs : List Int} (h : IsRow k bytes w a len cap zs) : len * bytes ≤ 140737488351232 := by
  rcases h with ⟨_, rfl, _, rfl⟩ | ⟨_, _, hl, hm, _⟩
  · simp
  · exact Nat.le_trans (Nat.mul_le_mul_right bytes hl) hm

theorem IsRow.later {k : IntKind} {bytes : Nat} {w w' : World} {a : Option Addr} {len cap : Nat} {zs : List Int} (h : IsRow k bytes w a len cap zs) (hb : Below w.heap.size w w') : IsRow k bytes w' a len cap zs := by
  rcases h with h | ⟨x, rfl, hl, hm, hz, hc, hw⟩
  · exact .inl h
  · refine .inr ⟨x, rfl, hl, hm, hz, fun i hi => ?_, hw⟩
    exact (hb.cell (p := x.add i) (block_lt_of_cell (hc i hi))).trans (hc i hi)

theorem wf_u8 {n : Int} (h : (Lit.int .u8 n).wf = true) : 0 ≤ n ∧ n ≤ 255 := by simpa using bounds_u8 h

theorem IsRow.text {w : World} {a : Option Addr} {len cap : Nat} {zs : List Int} (h : IsRow .u8 1 w a len cap zs) : HasText w a len (fun i => zs.getD i 0) := by
  intro i hi
  rcases h with ⟨_, rfl, _⟩ | ⟨x, rfl, hl, hm, hz, hc, hw⟩
  · omega
  · have hlt : i < zs.length := by omega
    have hci := hc i hlt
    obtain ⟨b, o, sp⟩ := x
    have hsp : sp = none := by simpa [Addr.add] using World.cell?_spot (hc 0 (by omega))
    subst hsp
    refine ⟨?_, b, o, rfl, ?_⟩
    · have hm : zs.getD i 0 ∈ zs := by rw [List.getD_eq_getElem?_getD, List.getElem?_eq_getElem hlt]; simp
      exact wf_u8 (hw _ hm)
    · have e : ((⟨b, o, none⟩ : Addr).add i) = ⟨b, o + i, none⟩ := by
        by_cases h0 : i = 0 <;> simp [Addr.add, h0]
      rw [e] at hci
      exact hci

/-- What an owned row of bytes is as a text. -/
theorem own_text {w : World} {B gb c len : Nat} {zs : List Int} (hz : (zs.take len).length = len) (hb : ∀ i, i < len → 0 ≤ zs.getD i 0 ∧ zs.getD i 0 ≤ 255) (h : w.ownsRow B 5 1 (.slice (some ⟨gb, 0, none⟩) len c) len ((zs.take len).map (Value.int .u8))) : HasText w (some ⟨gb, 0, none⟩) len (fun i => zs.getD i 0) := by
  intro i hi
  refine ⟨hb i hi, gb, 0, rfl, ?_⟩
  have hl : i < zs.length := by simp at hz; omega
  have hc := World.ownsRow.cells h (g := gb) rfl i (.int .u8 (zs.getD i 0)) (by
    rw [List.getElem?_map, List.getElem?_take, if_pos hi, List.getElem?_eq_getElem hl]
    simp [List.getD_eq_getElem?_getD, List.getElem?_eq_getElem hl])
  have e : ((⟨gb, 0, none⟩ : Addr).add i) = ⟨gb, 0 + i, none⟩ := by
    by_cases h0 : i = 0 <;> simp [Addr.add, h0]
  rw [e] at hc
  exact hc

/-- 'append(v, xs...)', v a row of the call's own that is not nil, xs a slice that came in. -/
theorem wpList_grow {ops : Array Oper} {rest : List Oper} {o : Oper} {a : Act} {Q : Exit → Act → World → Prop} (hgd : o.guard = none) (s x : Operand) (t : TypeId)
    (ho : o.op = .call { callee := .builtin .append, args := #[s, x], argTypes := #[t, t] }) (e : TypeId) (k : IntKind) (i0 : TypeInfo) (bytes : Nat) (hu : Try.prog.underlying t = some (.slice e)) (hi : Try.prog.info? e = some i0)
    (hz0 : i0.zero = some (.int k 0)) (hz1 : i0.size = 1) (hz2 : i0.bytes = bytes) (W : World) (B n : Nat) (g0 c0 : Nat) (xs : List Value) (hown : W.ownsRow B e 1 (.slice (some ⟨g0, 0, none⟩) n c0) n xs) (hB : B ≤ W.heap.size)
    (ao : Option Addr) (len cap : Nat) (zs : List Int) (hs : a.eval s = .slice (some ⟨g0, 0, none⟩) n c0) (hx : a.eval x = .slice ao len cap) (hrow : IsRow k bytes W ao len cap zs) (h63 : n + len ≤ maxLen) (hbytes : (n + len) * bytes ≤ 140737488355328)
    (h : ∀ gb c w', w'.ownsRow B e 1 (.slice (some ⟨gb, 0, none⟩) (n + len) c) (n + len) (xs ++ (zs.take len).map (Value.int k)) → B ≤ gb → gb < w'.heap.size → n + len ≤ c → Below B W w' → wpList Try.prog ops Q rest (a.put o.dst (.slice (some ⟨gb, 0, none⟩) (n + len) c)) w') :
    wpList Try.prog ops Q (o :: rest) a W := by
  have htk := hrow.take
  have hlt0 := World.ownsRow.lt hown g0 rfl
  rcases hrow with ⟨rfl, rfl, rfl, rfl⟩ | ⟨y, rfl, hl, hm, hz, hc, hw⟩
  · refine wpList_append_own_none hgd s x t ho B e i0 1 hu hi _ n xs hs hown hx ?_
    have hc0 : n ≤ c0 := by
      rcases hown.2 with ⟨hnil, _⟩ | ⟨gb, c, cur, e', _, _, hlc, _⟩
      · cases hnil
      · cases e'; exact hlc
    exact h g0 c0 W (by simpa using hown) hlt0.1 hlt0.2 (by simpa using hc0) (Below.refl _ _)
  · refine wpList_append_own _ hgd s x t ho B e i0 (.int k 0) 1 bytes hu hi hz0 hz1 hz2 rfl (by decide) _ n xs hs hown y len cap ((zs.take len).map (Value.int k)) hx (by rw [List.length_map, htk]; omega) ?_ (ints_oneCell k _) h63 hbytes hB ?_
    · intro j u hj
      rw [List.getElem?_map, List.getElem?_take] at hj
      by_cases hjl : j < len
      · rw [if_pos hjl] at hj
        have hlt : j < zs.length := by omega
        rw [List.getElem?_eq_getElem hlt] at hj
        simp at hj
        subst hj
        have hcj := hc j hlt
        rw [List.getD_eq_getElem?_getD, List.getElem?_eq_getElem hlt] at hcj
        exact hcj
      · rw [if_neg hjl] at hj
        simp at hj
    · intro v' w' hown' hg hiff
      rcases hown'.2 with ⟨hnil, _⟩ | ⟨gb, c, cur, rfl, hgb, hh, hlc, _⟩
      · have := (hiff.1 hnil).1
        cases this
      · exact h gb c w' hown' hgb (lt_of_block hh) hlc ((Below.refl B W).grown hg hB (fun q hq => by cases hq; exact hlt0.1))

/-- 'append(v, xs...)' once more, at a single operation. -/
theorem wp_grow {o : Oper} {a : Act} {K : Act → World → Prop} {Q : Exit → Act → World → Prop} (s x : Operand) (t : TypeId)
    (ho : o.op = .call { callee := .builtin .append, args := #[s, x], argTypes := #[t, t] }) (e : TypeId) (k : IntKind) (i0 : TypeInfo) (bytes : Nat) (hu : Try.prog.underlying t = some (.slice e)) (hi : Try.prog.info? e = some i0)
    (hz0 : i0.zero = some (.int k 0)) (hz1 : i0.size = 1) (hz2 : i0.bytes = bytes) (W : World) (B n : Nat) (g0 c0 : Nat) (xs : List Value) (hown : W.ownsRow B e 1 (.slice (some ⟨g0, 0, none⟩) n c0) n xs) (hB : B ≤ W.heap.size)
    (ao : Option Addr) (len cap : Nat) (zs : List Int) (hs : a.eval s = .slice (some ⟨g0, 0, none⟩) n c0) (hx : a.eval x = .slice ao len cap) (hrow : IsRow k bytes W ao len cap zs) (h63 : n + len ≤ maxLen) (hbytes : (n + len) * bytes ≤ 140737488355328)
    (h : ∀ gb c w', w'.ownsRow B e 1 (.slice (some ⟨gb, 0, none⟩) (n + len) c) (n + len) (xs ++ (zs.take len).map (Value.int k)) → B ≤ gb → gb < w'.heap.size → n + len ≤ c → Below B W w' → K (a.put o.dst (.slice (some ⟨gb, 0, none⟩) (n + len) c)) w') :
    o.wp Try.prog a W K Q := by
  have htk := hrow.take
  have hlt0 := World.ownsRow.lt hown g0 rfl
  rcases hrow with ⟨rfl, rfl, rfl, rfl⟩ | ⟨y, rfl, hl, hm, hz, hc, hw⟩
  · have hc0 : n ≤ c0 := by
      rcases hown.2 with ⟨hnil, _⟩ | ⟨gb, c, cur, e', _, _, hlc, _⟩
      · cases hnil
      · cases e'; exact hlc
    have hrun := run_append_owned_none (P := Try.prog) (w := W) B t o.type e i0 1 hu hi _ n xs hown
    unfold Oper.wp
    simp [execOp, ho, resolve, invoke, builtin, hs, hx, hrun, Result.andThen]
    exact h g0 c0 W (by simpa using hown) hlt0.1 hlt0.2 (by simpa using hc0) (Below.refl _ _)
  · refine wp_append_own W s x t ho B e i0 (.int k 0) 1 bytes hu hi hz0 hz1 hz2 rfl (by decide) _ n xs hs hown y len cap ((zs.take len).map (Value.int k)) hx (by rw [List.length_map, htk]; omega) ?_ (ints_oneCell k _) h63 hbytes hB ?_
    · intro j u hj
      rw [List.getElem?_map, List.getElem?_take] at hj
      by_cases hjl : j < len
      · rw [if_pos hjl] at hj
        have hlt : j < zs.length := by omega
        rw [List.getElem?_eq_getElem hlt] at hj
        simp at hj
        subst hj
        have hcj := hc j hlt
        rw [List.getD_eq_getElem?_getD, List.getElem?_eq_getElem hlt] at hcj
        exact hcj
      · rw [if_neg hjl] at hj
        simp at hj
    · intro v' w' hown' hg hiff
      rcases hown'.2 with ⟨hnil, _⟩ | ⟨gb, c, cur, rfl, hgb, hh, hlc, _⟩
      · have := (hiff.1 hnil).1
        cases this
      · exact h gb c w' hown' hgb (lt_of_block hh) hlc ((Below.refl B W).grown hg hB (fun q hq => by cases hq; exact hlt0.1))

/-- 'append([]T{}, xs...)': a copy in new memory. -/
theorem wpList_copy {ops : Array Oper} {rest : List Oper} {o : Oper} {a : Act} {Q : Exit → Act → World → Prop} (hgd : o.guard = none) (s x : Operand) (t : TypeId)
    (ho : o.op = .call { callee := .builtin .append, args := #[s, x], argTypes := #[t, t] }) (e : TypeId) (k : IntKind) (i0 : TypeInfo) (bytes : Nat) (hu : Try.prog.underlying t = some (.slice e)) (hi : Try.prog.info? e = some i0)
    (hz0 : i0.zero = some (.int k 0)) (hz1 : i0.size = 1) (hz2 : i0.bytes = bytes) (hpos : 0 < bytes) (W : World) (ao : Option Addr) (len cap : Nat) (zs : List Int) (hs : a.eval s = .slice (some ⟨W.heap.size, 0, none⟩) 0 0) (hx : a.eval x = .slice ao len cap)
    (hrow : IsRow k bytes W ao len cap zs)
    (h : ∀ gb c w', w'.ownsRow W.heap.size e 1 (.slice (some ⟨gb, 0, none⟩) len c) len ((zs.take len).map (Value.int k)) → W.heap.size ≤ gb → gb < w'.heap.size → len ≤ c → Below W.heap.size W w' → wpList Try.prog ops Q rest (a.put o.dst (.slice (some ⟨gb, 0, none⟩) len c)) w') :
    wpList Try.prog ops Q (o :: rest) a (W.alloc (.cells #[] e)) := by
  have hown0 : (W.alloc (.cells #[] e)).ownsRow W.heap.size e 1 (.slice (some ⟨W.heap.size, 0, none⟩) 0 0) 0 [] := World.ownsRow_made W #[] 0 (Nat.le_refl _) (Nat.zero_le _) rfl
  have hb0 : Below W.heap.size W (W.alloc (.cells #[] e)) := (Below.refl _ _).alloc (Nat.le_refl _) _
  have htk := hrow.take
  have hsm := hrow.small
  rcases hrow with ⟨rfl, rfl, rfl, rfl⟩ | ⟨y, rfl, hl, hm, hz, hc, hw⟩
  · refine wpList_append_own_none hgd s x t ho W.heap.size e i0 1 hu hi _ 0 [] hs hown0 hx ?_
    exact h _ _ _ hown0 (Nat.le_refl _) (by simp) (Nat.le_refl _) hb0
  · have hlb : len ≤ 140737488351232 := Nat.le_trans (Nat.le_mul_of_pos_right len hpos) hsm
    refine wpList_append_own _ hgd s x t ho W.heap.size e i0 (.int k 0) 1 bytes hu hi hz0 hz1 hz2 rfl (by decide) _ 0 [] hs hown0 y len cap ((zs.take len).map (Value.int k)) hx (by rw [List.length_map, htk]; omega) ?_ (ints_oneCell k _) (by unfold maxLen; omega) (by rw [Nat.zero_add]; omega) (by simp) ?_
    · intro j u hj
      rw [List.getElem?_map, List.getElem?_take] at hj
      by_cases hjl : j < len
      · rw [if_pos hjl] at hj
        have hlt : j < zs.length := by omega
        rw [List.getElem?_eq_getElem hlt] at hj
        simp at hj
        subst hj
        have hcj := hc j hlt
        rw [List.getD_eq_getElem?_getD, List.getElem?_eq_getElem hlt] at hcj
        exact (World.grownBy_alloc W _ none).cell hcj (by simp)
      · rw [if_neg hjl] at hj
        simp at hj
    · intro v' w' hown' hg hiff
      rw [Nat.zero_add, List.nil_append] at hown'
      rcases hown'.2 with ⟨hnil, _⟩ | ⟨gb, c, cur, rfl, hgb, hh, hlc, _⟩
      · have := (hiff.1 hnil).1
        cases this
      · exact h gb c w' hown' hgb (lt_of_block hh) hlc (hb0.grown hg (by simp) (fun q hq => by cases hq; exact Nat.le_refl _))

end Go.Proofs.Ytfkmldopfhdbkaa

/-
  Slices of ints that came in, and what the second form's bound gives.
-/
namespace Go.Proofs.Ytfkmldopfhdbkaa
open Go.ChangeShapes Go.WideShapes Go.ChangeAt Go.RowKit

theorem wf_i64 {n : Int} (h : (Lit.int .i64 n).wf = true) : -9223372036854775808 ≤ n ∧ n ≤ 9223372036854775807 := by simpa using bounds_i64 h

theorem IsRow.wf {k : IntKind} {bytes : Nat} {w : World} {a : Option Addr} {len cap : Nat} {zs : List Int} (h : IsRow k bytes w a len cap zs) {i : Nat} (hi : i < len) : (Lit.int k (zs.getD i 0)).wf = true := by
  rcases h with ⟨_, rfl, _⟩ | ⟨x, rfl, hl, hm, hz, hc, hw⟩
  · omega
  · have hlt : i < zs.length := by omega
    have hm : zs.getD i 0 ∈ zs := by rw [List.getD_eq_getElem?_getD, List.getElem?_eq_getElem hlt]; simp
    exact hw _ hm

theorem IsRow.int_at {w : World} {a : Option Addr} {len cap : Nat} {zs : List Int} (h : IsRow .i64 8 w a len cap zs) {i : Nat} (hi : i < len) : ∃ b o, a = some ⟨b, o, none⟩ ∧ w.cell? ⟨b, o + i, none⟩ = some (.int .i64 (zs.getD i 0)) ∧ -9223372036854775808 ≤ zs.getD i 0 ∧ zs.getD i 0 ≤ 9223372036854775807 := by
  have hw := wf_i64 (h.wf hi)
  rcases h with ⟨_, rfl, _⟩ | ⟨x, rfl, hl, hm, hz, hc, _⟩
  · omega
  · have hlt : i < zs.length := by omega
    have hci := hc i hlt
    obtain ⟨b, o, sp⟩ := x
    have hsp : sp = none := by simpa [Addr.add] using World.cell?_spot (hc 0 (by omega))
    subst hsp
    refine ⟨b, o, rfl, ?_, hw⟩
    have e : ((⟨b, o, none⟩ : Addr).add i) = ⟨b, o + i, none⟩ := by
      by_cases h0 : i = 0 <;> simp [Addr.add, h0]
    rw [e] at hci
    exact hci

theorem bulk_one {H : Type} (d : DataW H) : 1 ≤ Rows.uptoBulk d := by
  cases d with
  | lit l => cases l <;> simp [Rows.uptoBulk]
  | nil => simp [Rows.uptoBulk]
  | ptr d => simp [Rows.uptoBulk]
  | slice elems spare => simp [Rows.uptoBulk]
  | agg parts => simp [Rows.uptoBulk]
  | iface t d => simp [Rows.uptoBulk]
  | map entries => simp [Rows.uptoBulk]
  | held h => simp [Rows.uptoBulk]

theorem bulk_part {H : Type} {d : DataW H} {l : List (DataW H)} (h : d ∈ l) : Rows.uptoBulk d ≤ Rows.uptoBulkAll l := by
  induction l with
  | nil => cases h
  | cons x r ih =>
    simp only [Rows.uptoBulkAll]
    cases List.mem_cons.1 h with
    | inl e => subst e; omega
    | inr e => have := ih e; omega

theorem bulk_length {H : Type} (l : List (DataW H)) : l.length ≤ Rows.uptoBulkAll l := by
  induction l with
  | nil => simp [Rows.uptoBulkAll]
  | cons x r ih => have := bulk_one x; simp only [Rows.uptoBulkAll, List.length_cons]; omega

theorem IsRow.upto {H : Type} {enc : TypeId × Value → H} {W : World} {t e : TypeId} {k : IntKind} {a : Option Addr} {len cap : Nat} {d : DataW H} {p : List MemPlace} {ds : List (DataW H)} (hk : Rows.uptoSmall H ds = true) {j : Nat}
    (ht : Try.prog.underlying t = some (.slice e)) (he : Try.prog.underlying e = some (.int k)) (hc : Try.prog.cellsOf e = 1)
    (h : DataW.Trod enc Try.prog W 0 (fun _ => true) true t (.slice a len cap) d p) (hds : ds[j]? = some d) : len ≤ 1048576 := by
  have hb := of_decide_eq_true hk
  have hp := bulk_part (List.mem_of_getElem? hds)
  obtain ⟨fuel, hf⟩ := h
  rcases open_ints ht he hc hf with ⟨hcs, _⟩ | ⟨x, l, c, zs, hcs, _, hl, hm, hz, hx, hcell, hwz⟩
  · simp [Value.cells] at hcs
    omega
  · simp [Value.cells] at hcs
    obtain ⟨rfl, rfl, rfl⟩ := hcs
    simp only [Prod.mk.injEq] at hx
    obtain ⟨rfl, _⟩ := hx
    have hz' : zs.length = cap := by simpa using hz
    have h1 := bulk_length (H := H) (lits k (zs.take len))
    simp only [Rows.uptoBulk] at hp
    simp only [lits, List.length_map, List.length_take] at h1
    simp only [lits] at hp
    omega

end Go.Proofs.Ytfkmldopfhdbkaa

/-
  Lists of ints wherever they lie; copies of them.
-/
namespace Go.Proofs.Ytfkmldopfhdbkaa
open Go.RowKit

/-- A list of the ints l, wherever it lies; nil has no room. -/
structure Lst (w : World) (ao : Option Addr) (n ca : Nat) (l : List Int) : Prop where
  len : l.length = n
  ints : IntsAt w ao l
  none : ao = none → n = 0 ∧ ca = 0

section
variable {w w' : World} {ao : Option Addr} {n ca : Nat} {l : List Int}
theorem Lst.later (h : Lst w ao n ca l) (hb : Below w.heap.size w w') : Lst w' ao n ca l := ⟨h.len, h.ints.later hb, h.none⟩
theorem IntsBlk.lst {g : Nat} (h : IntsBlk w g l) (hl : l.length = n) : Lst w (some ⟨g, 0, .none⟩) n ca l := ⟨hl, h.at, fun e => by cases e⟩
theorem OwnZ.lst {B : Nat} {v : Value} (h : OwnZ w B v l) : ∃ ao ca, v = .slice ao l.length ca ∧ Lst w ao l.length ca l ∧ (∀ x, ao = some x → B ≤ x.block ∧ x.block < w.heap.size) := by
  rcases h.2 with ⟨rfl, h0⟩ | ⟨g, cap, cur, rfl, hB, hh, _⟩
  · refine ⟨.none, 0, by rw [h0], ⟨rfl, fun j x hj => ?_, fun _ => ⟨h0, rfl⟩⟩, fun x hx => by cases hx⟩
    have := (List.getElem?_eq_some_iff.1 hj).1
    omega
  · obtain ⟨ao, ca, e, ha, hb⟩ := h.form
    cases e
    exact ⟨_, _, rfl, ⟨rfl, ha, fun e => by cases e⟩, hb⟩
end

/-- 'append([]int{}, xs...)': a copy in new memory, of a list wherever it lies. -/
theorem wpList_copy_lst {ops : Array Oper} {rest : List Oper} {o : Oper} {a : Act} {Q : Exit → Act → World → Prop} (hgd : o.guard = none) (s x : Operand)
    (ho : o.op = .call { callee := .builtin .append, args := #[s, x], argTypes := #[36, 36] }) (W : World) (ao : Option Addr) (n ca : Nat) (l : List Int) (hs : a.eval s = .slice (some ⟨W.heap.size, 0, none⟩) 0 0) (hx : a.eval x = .slice ao n ca)
    (hr : Lst W ao n ca l) (hn : n ≤ 17592186043904)
    (h : ∀ gb c w', w'.ownsRow W.heap.size 3 1 (.slice (some ⟨gb, 0, none⟩) n c) n (l.map (Value.int .i64)) → W.heap.size ≤ gb → gb < w'.heap.size → n ≤ c → Below W.heap.size W w' → wpList Try.prog ops Q rest (a.put o.dst (.slice (some ⟨gb, 0, none⟩) n c)) w') :
    wpList Try.prog ops Q (o :: rest) a (W.alloc (.cells #[] 3)) := by
  obtain ⟨i0, hi, hz0, hz1, hz2⟩ := info_parts Try.infoNum
  have hown0 : (W.alloc (.cells #[] 3)).ownsRow W.heap.size 3 1 (.slice (some ⟨W.heap.size, 0, none⟩) 0 0) 0 [] := World.ownsRow_made W #[] 0 (Nat.le_refl _) (Nat.zero_le _) rfl
  have hb0 : Below W.heap.size W (W.alloc (.cells #[] 3)) := (Below.refl _ _).alloc (Nat.le_refl _) _
  rcases ao with _ | y
  · obtain ⟨rfl, rfl⟩ := hr.none rfl
    have hl : l = [] := List.length_eq_zero_iff.1 hr.len
    subst hl
    refine wpList_append_own_none hgd s x 36 ho W.heap.size 3 i0 1 Try.underlying36 hi _ 0 [] hs hown0 hx ?_
    exact h _ _ _ hown0 (Nat.le_refl _) (by simp) (Nat.le_refl _) hb0
  · refine wpList_append_own _ hgd s x 36 ho W.heap.size 3 i0 (.int .i64 0) 1 8 Try.underlying36 hi hz0 hz1 hz2 rfl (by decide) _ 0 [] hs hown0 y n ca (l.map (Value.int .i64)) hx (by rw [List.length_map, hr.len]; omega) ?_ (ints_oneCell .i64 _) (by unfold maxLen; omega) (by rw [Nat.zero_add]; omega) (by simp) ?_
    · intro j u hj
      rw [List.getElem?_map] at hj
      cases hlj : l[j]? with
      | none => rw [hlj] at hj; cases hj
      | some z =>
        rw [hlj] at hj
        obtain rfl := Option.some.inj hj
        obtain ⟨b, o', e, hc⟩ := hr.ints j z hlj
        cases e
        have ea : ((⟨b, o', none⟩ : Addr).add j) = ⟨b, o' + j, none⟩ := by
          by_cases h0 : j = 0 <;> simp [Addr.add, h0]
        rw [ea]
        exact (World.grownBy_alloc W _ none).cell hc (by simp)
    · intro v' w' hown' hg hiff
      rw [Nat.zero_add, List.nil_append] at hown'
      rcases hown'.2 with ⟨hnil, _⟩ | ⟨gb, c, cur, rfl, hgb, hh, hlc, _⟩
      · have := (hiff.1 hnil).1
        cases this
      · exact h gb c w' hown' hgb (lt_of_block hh) hlc (hb0.grown hg (by simp) (fun q hq => by cases hq; exact Nat.le_refl _))

theorem IsRow.lst {w : World} {a : Option Addr} {len cap : Nat} {zs : List Int} (h : IsRow .i64 8 w a len cap zs) : Lst w a len cap (zs.take len) := by
  refine ⟨h.take, fun j z hj => ?_, fun e => ?_⟩
  · rcases h with ⟨_, rfl, _, rfl⟩ | ⟨x, rfl, hl, hm, hz, hc, hw⟩
    · simp at hj
    · rw [List.getElem?_take] at hj
      by_cases hjl : j < len
      · rw [if_pos hjl] at hj
        have hlt : j < zs.length := by omega
        have hci := hc j hlt
        rw [List.getD_eq_getElem?_getD, hj] at hci
        obtain ⟨b, o, sp⟩ := x
        have hsp : sp = none := by simpa [Addr.add] using World.cell?_spot (hc 0 (by omega))
        subst hsp
        refine ⟨b, o, rfl, ?_⟩
        have e : ((⟨b, o, none⟩ : Addr).add j) = ⟨b, o + j, none⟩ := by
          by_cases h0 : j = 0 <;> simp [Addr.add, h0]
        rw [e] at hci
        exact hci
      · rw [if_neg hjl] at hj
        cases hj
  · rcases h with ⟨_, h1, h2, _⟩ | ⟨x, h1, _⟩
    · exact ⟨h1, h2⟩
    · rw [h1] at e; cases e

theorem IsRow.few {w : World} {a : Option Addr} {len cap : Nat} {zs : List Int} (h : IsRow .i64 8 w a len cap zs) : len ≤ 17592186043904 := by
  have := h.small
  omega

theorem row_lst {w : World} {B g n c : Nat} {l : List Int} (h : w.ownsRow B 3 1 (.slice (some ⟨g, 0, none⟩) n c) n (l.map (Value.int .i64))) (hl : l.length = n) : Lst w (some ⟨g, 0, none⟩) n c l := by
  have hi := ints_in_row h
  exact ⟨hl, fun j x hj => ⟨g, 0, rfl, by rw [Nat.zero_add]; exact hi.cell hj⟩, fun e => by cases e⟩

end Go.Proofs.Ytfkmldopfhdbkaa

/-
  Small things about memory: lists in blocks, stores elsewhere, the least number.
-/
namespace Go.Proofs.Ytfkmldopfhdbkaa
open Go.RowKit

theorem getD_of {l : List Int} {i : Nat} (d : Int) (h : i < l.length) : l[i]? = some (l.getD i d) := by
  rw [List.getD_eq_getElem?_getD, List.getElem?_eq_getElem h]
  rfl

theorem OwnZ.lt {w : World} {B : Nat} {v : Value} {l : List Int} (h : OwnZ w B v l) {b : Nat} (hb : v.ownBlock = some b) : B ≤ b ∧ b < w.heap.size := World.ownsRow.lt h b hb

section
variable {w : World}
/-- A store into one of the lists, or only block p is written. -/
theorem blk_same {g b i : Nat} (hne : g ≠ b) (x : Value) : (w.setCell ⟨b, i, none⟩ x).heap[g]? = w.heap[g]? := heap_setCell_other w ⟨b, i, none⟩ g x hne

theorem OwnZ.set_far {B b i : Nat} {v : Value} {l : List Int} (h : OwnZ w B v l) (hf : v.ownBlock ≠ some b) (x : Value) : OwnZ (w.setCell ⟨b, i, none⟩ x) B v l :=
  h.same fun _ hg _ => blk_same (fun e => hf (by rw [hg, e])) x

theorem IntsBlk.set_far {g b i : Nat} {l : List Int} (h : IntsBlk w g l) (hf : g ≠ b) (x : Value) : IntsBlk (w.setCell ⟨b, i, none⟩ x) g l := (blk_same hf x).trans h
end

/-- The least number that has P; 0, if none has. -/
noncomputable def leastOf (P : Nat → Prop) : Nat := open Classical in if h : ∃ k, P k ∧ ∀ j, P j → k ≤ j then Classical.choose h else 0

theorem ex_least {P : Nat → Prop} {k : Nat} (h : P k) : ∃ k, P k ∧ ∀ j, P j → k ≤ j := by
  induction k using Nat.strongRecOn with
  | _ k ih =>
    by_cases hk : ∃ j, j < k ∧ P j
    · obtain ⟨j, hj, hp⟩ := hk
      exact ih j hj hp
    · refine ⟨k, h, fun j hj => ?_⟩
      rcases Nat.lt_or_ge j k with h1 | h1
      · exact absurd ⟨j, h1, hj⟩ hk
      · exact h1

theorem leastOf_spec {P : Nat → Prop} {k : Nat} (h : P k) : P (leastOf P) ∧ leastOf P ≤ k := by
  have hx := ex_least h
  unfold leastOf
  rw [dif_pos hx]
  have := Classical.choose_spec hx
  exact ⟨this.1, this.2 k h⟩

theorem IntsBlk.own0 {w : World} {B g n : Nat} {l : List Int} (h : IntsBlk w g l) (hB : B ≤ g) (hl : l.length = n) (hm : n ≤ 8388608) : OwnZ w B (.slice (some ⟨g, 0, none⟩) 0 n) [] := by
  subst hl
  exact ⟨by simp, .inr ⟨g, _, _, rfl, hB, h, by simp, by unfold maxLen; omega, by simp, by simp⟩⟩

theorem four_cells {w : World} {R : Nat} {t : TypeId} {a b c d : Value} (h : w.heap[R]? = some (.cells #[a, b, c, d] t (0, 0))) : w.cell? ⟨R, 0, none⟩ = some a ∧ w.cell? ⟨R, 1, none⟩ = some b ∧ w.cell? ⟨R, 2, none⟩ = some c ∧ w.cell? ⟨R, 3, none⟩ = some d ∧ ∀ i, w.frozen? ⟨R, i, none⟩ = false := by
  refine ⟨?_, ?_, ?_, ?_, fun i => ?_⟩
  · simp [World.cell?, h]
  · simp [World.cell?, h]
  · simp [World.cell?, h]
  · simp [World.cell?, h]
  · simp [World.frozen?, h]

theorem Cs.fr_ne_to {n : Nat} {es : List (Int × Int)} (hv : Si.Val n es) {h : Nat} (hh : h < 2 * es.length) : Cs.fr es h ≠ Cs.to es h := by
  obtain ⟨p, hp⟩ : ∃ p, es[h / 2]? = some p := ⟨_, List.getElem?_eq_getElem (by omega)⟩
  have ho := hv.each _ p hp
  unfold Si.ok at ho
  unfold Cs.fr Cs.to
  rw [List.getD_eq_getElem?_getD, hp]
  dsimp only [Option.getD_some]
  split <;> omega

theorem made_blk {W : World} {k M : Nat} (h : W.heap.size = k) : IntsBlk (W.alloc (.cells (madeCells #[.int .i64 0] M) 3)) k (List.replicate M 0) := by
  subst h
  unfold IntsBlk
  rw [heap_alloc_new, ← made_zeros]

theorem alloc_at {W : World} {k : Nat} {o : Obj} (h : W.heap.size = k) : (W.alloc o).heap[k]? = some o := by
  subst h
  exact heap_alloc_new W o

end Go.Proofs.Ytfkmldopfhdbkaa

/-
  Lists of lists of ints, wherever they lie.
-/
namespace Go.Proofs.Ytfkmldopfhdbkaa
open Go.RowKit

/-- The lists ls lie at xo, each wherever it lies. -/
def RwsAt (w : World) (xo : Option Addr) (ls : List (List Int)) : Prop :=
  ∀ (v : Nat) (l : List Int), ls[v]? = some l → ∃ b o A C, xo = some ⟨b, o, none⟩ ∧ w.cell? ⟨b, o + v, none⟩ = some (.slice A l.length C) ∧ Lst w A l.length C l ∧ l.length ≤ 17592186043904 ∧ l.length ≤ C ∧ C ≤ 9223372036854775807

theorem RwsAt.later {w w' : World} {xo : Option Addr} {ls : List (List Int)} (h : RwsAt w xo ls) (hb : Below w.heap.size w w') : RwsAt w' xo ls := fun v l hl => by
  obtain ⟨b, o, A, C, e, hc, hL, hn⟩ := h v l hl
  exact ⟨b, o, A, C, e, (hb.cell (p := ⟨b, o + v, none⟩) (block_lt_of_cell hc)).trans hc, hL.later hb, hn⟩

theorem RwsAt.nil (w : World) (xo : Option Addr) : RwsAt w xo [] := fun v l hl => by simp at hl

/-- An element of a list that lies somewhere. -/
theorem Lst.elem {w : World} {A : Option Addr} {n C : Nat} {l : List Int} (h : Lst w A n C l) {i : Nat} {x : Int} (hx : l[i]? = some x) : ∃ b o, A = some ⟨b, o, .none⟩ ∧ w.cell? ⟨b, o + i, .none⟩ = some (.int .i64 x) := h.ints i x hx

end Go.Proofs.Ytfkmldopfhdbkaa
