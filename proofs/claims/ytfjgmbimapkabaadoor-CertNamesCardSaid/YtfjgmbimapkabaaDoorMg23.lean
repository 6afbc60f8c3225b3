import Derived.Test.YtfjgmbimapkabaaDoorRows
import Derived.ProofKit
import Derived.OpenShut
import Derived.SizedLaws
import Derived.Deep.DeepHandedRow
import Derived.Lib.LaidTab
import Derived.Test.YtfjgmbimapkabaaDoorCards
import Derived.Test.YtfjgmbimapkabaaDoorTie
import Derived.Test.YtfjgmbimapkabaaDoorMg20
/-
  What the rows have in common: a slice of integers that came in, copies of it in new memory, and the small closed facts.
-/
namespace Go.Proofs.YtfjgmbimapkabaaDoor
open Go.ChangeShapes Go.WideShapes Go.ChangeAt Go.RowKit

theorem own : ownKnob Tryd.prog.godebug = none := by kernel_rfl
theorem laidOut : laidOutB Tryd.prog = true := by kernel_rfl
theorem cellsU8 : Tryd.prog.cellsOf 5 = 1 := by kernel_rfl
theorem cellsInt : Tryd.prog.cellsOf 3 = 1 := by kernel_rfl
theorem bytesU8 : Tryd.prog.bytesOf 5 = 1 := by kernel_rfl
theorem bytesInt : Tryd.prog.bytesOf 3 = 8 := by kernel_rfl
theorem Tryd.infoU8 : (Tryd.prog.info? 5).map (fun i => (i.zero, i.size, i.bytes)) = some (some (.int .u8 0), 1, 1) := by kernel_rfl

/-- A world for the witness. -/
noncomputable def settled (os : Os) : World := World.holding Tryd.prog os ⟨#[], #[], []⟩

/-- A slice of integers that came in: nil, or cap cells, the numbers zs, the first len of which are its elements; it takes at most the reach. -/
def IsRow (k : IntKind) (bytes : Nat) (w : World) (a : Option Addr) (len cap : Nat) (zs : List Int) : Prop :=
  (a = none ∧ len = 0 ∧ cap = 0 ∧ zs = []) ∨
  ∃ x, a = some x ∧ len ≤ cap ∧ cap * bytes ≤ 140737488351232 ∧ zs.length = cap ∧ (∀ i, i < zs.length → w.cell? (x.add i) = some (.int k (zs.getD i 0))) ∧ ∀ n ∈ zs, (Lit.int k n).wf = true

theorem IsRow.of_trod {H : Type} {enc : TypeId × Value → H} {W : World} {t e : TypeId} {k : IntKind} {a : Option Addr} {len cap : Nat} {d : DataW H} {p : List MemPlace} {ts : List TypeId} {ds : List (DataW H)} {j bytes : Nat}
    (ht : Tryd.prog.underlying t = some (.slice e)) (he : Tryd.prog.underlying e = some (.int k)) (hc : Tryd.prog.cellsOf e = 1) (hby : Tryd.prog.bytesOf e = bytes)
    (h : DataW.Trod enc Tryd.prog W 0 (fun _ => true) true t (.slice a len cap) d p) (hsz : (DataW.weightsEach Tryd.prog ts ds).all (· ≤ reachBytes) = true) (hts : ts[j]? = some t) (hds : ds[j]? = some d) :
    ∃ zs, IsRow k bytes W a len cap zs := by
  obtain ⟨fuel, hf⟩ := h
  rcases open_ints ht he hc hf with ⟨hcs, _⟩ | ⟨x, l, c, zs, hcs, _, hl, hm, hz, hx, hcell, hwz⟩
  · simp [Value.cells] at hcs
    obtain ⟨rfl, rfl, rfl⟩ := hcs
    exact ⟨[], .inl ⟨rfl, rfl, rfl, rfl⟩⟩
  · simp [Value.cells] at hcs
    obtain ⟨rfl, rfl, rfl⟩ := hcs
    simp only [Prod.mk.injEq] at hx
    obtain ⟨rfl, _⟩ := hx
    have hw := sized_slice hsz hts hds ht
    have hz' : zs.length = cap := by simpa using hz
    rw [hby] at hw
    simp only [lits, List.length_map, List.length_take, List.length_drop, reachBytes] at hw
    have e1 : min len zs.length + (zs.length - len) = cap := by omega
    rw [e1] at hw
    exact ⟨zs, .inr ⟨_, rfl, hl, hw, hz', hcell, hwz⟩⟩

theorem IsRow.take {k : IntKind} {bytes : Nat} {w : World} {a : Option Addr} {len cap : Nat} {zs : List Int} (h : IsRow k bytes w a len cap zs) : (zs.take len).length = len := by
  rcases h with ⟨_, rfl, _, rfl⟩ | ⟨_, _, hl, _, hz, _⟩
  · rfl
  · simp; omega

theorem IsRow.small {k : IntKind} {bytes : Nat} {w : World} {a : Option Addr} {len cap : Nat} {zs : List Int} (h : IsRow k bytes w a len cap zs) : len * bytes ≤ 140737488351232 := by
  rcases h with ⟨_, rfl, _, rfl⟩ | ⟨_, _, hl, hm, _⟩
  · simp
  · exact Nat.le_trans (Nat.mul_le_mul_right bytes hl) hm

theorem IsRow.later {k : IntKind} {bytes : Nat} {w w' : World} {a : Option Addr} {len cap : Nat} {zs : List Int} (h : IsRow k bytes w a len cap zs) (hb : Below w.heap.size w w') : IsRow k bytes w' a len cap zs := by
  rcases h with h | ⟨x, rfl, hl, hm, hz, hc, hw⟩
  · exact .inl h
  · refine .inr ⟨x, rfl, hl, hm, hz, fun i hi => ?_, hw⟩
    exact (hb.cell (p := x.add i) (block_lt_of_cell (hc i hi))).trans (hc i hi)

theorem wf_u8 {n : Int} (h : (Lit.int .u8 n).wf = true) : 0 ≤ n ∧ n ≤ 255 := by simpa using bounds_u8 h

theorem IsRow.text {w : World} {a : Option Addr} {len cap : Nat} {zs : List Int} (h : IsRow .u8 1 w a len cap zs) : HasText w a len (fun i => zs.getD i 0) := by
  intro i hi
  rcases h with ⟨_, rfl, _⟩ | ⟨x, rfl, hl, hm, hz, hc, hw⟩
  · omega
  · have hlt : i < zs.length := by omega
    have hci := hc i hlt
    obtain ⟨b, o, sp⟩ := x
    have hsp : sp = none := by simpa [Addr.add] using World.cell?_spot (hc 0 (by omega))
    subst hsp
    refine ⟨?_, b, o, rfl, ?_⟩
    · have hm : zs.getD i 0 ∈ zs := by rw [List.getD_eq_getElem?_getD, List.getElem?_eq_getElem hlt]; simp
      exact wf_u8 (hw _ hm)
    · have e : ((⟨b, o, none⟩ : Addr).add i) = ⟨b, o + i, none⟩ := by
        by_cases h0 : i = 0 <;> simp [Addr.add, h0]
      rw [e] at hci
      exact hci

/-- What an owned row of bytes is as a text. -/
theorem own_text {w : World} {B gb c len : Nat} {zs : List Int} (hz : (zs.take len).length = len) (hb : ∀ i, i < len → 0 ≤ zs.getD i 0 ∧ zs.getD i 0 ≤ 255) (h : w.ownsRow B 5 1 (.slice (some ⟨gb, 0, none⟩) len c) len ((zs.take len).map (Value.int .u8))) : HasText w (some ⟨gb, 0, none⟩) len (fun i => zs.getD i 0) := by
  intro i hi
  refine ⟨hb i hi, gb, 0, rfl, ?_⟩
  have hl : i < zs.length := by simp at hz; omega
  have hc := World.ownsRow.cells h (g := gb) rfl i (.int .u8 (zs.getD i 0)) (by
    rw [List.getElem?_map, List.getElem?_take, if_pos hi, List.getElem?_eq_getElem hl]
    simp [List.getD_eq_getElem?_getD, List.getElem?_eq_getElem hl])
  have e : ((⟨gb, 0, none⟩ : Addr).add i) = ⟨gb, 0 + i, none⟩ := by
    by_cases h0 : i = 0 <;> simp [Addr.add, h0]
  rw [e] at hc
  exact hc

/-- 'append(v, xs...)', v a row of the call's own that is not nil, xs a slice that came in. -/
theorem wpList_grow {ops : Array Oper} {rest : List Oper} {o : Oper} {a : Act} {Q : Exit → Act → World → Prop} (hgd : o.guard = none) (s x : Operand) (t : TypeId)
    (ho : o.op = .call { callee := .builtin .append, args := #[s, x], argTypes := #[t, t] }) (e : TypeId) (k : IntKind) (i0 : TypeInfo) (bytes : Nat) (hu : Tryd.prog.underlying t = some (.slice e)) (hi : Tryd.prog.info? e = some i0)
    (hz0 : i0.zero = some (.int k 0)) (hz1 : i0.size = 1) (hz2 : i0.bytes = bytes) (W : World) (B n : Nat) (g0 c0 : Nat) (xs : List Value) (hown : W.ownsRow B e 1 (.slice (some ⟨g0, 0, none⟩) n c0) n xs) (hB : B ≤ W.heap.size)
    (ao : Option Addr) (len cap : Nat) (zs : List Int) (hs : a.eval s = .slice (some ⟨g0, 0, none⟩) n c0) (hx : a.eval x = .slice ao len cap) (hrow : IsRow k bytes W ao len cap zs) (h63 : n + len ≤ maxLen) (hbytes : (n + len) * bytes ≤ 140737488355328)
    (h : ∀ gb c w', w'.ownsRow B e 1 (.slice (some ⟨gb, 0, none⟩) (n + len) c) (n + len) (xs ++ (zs.take len).map (Value.int k)) → B ≤ gb → gb < w'.heap.size → n + len ≤ c → Below B W w' → wpList Tryd.prog ops Q rest (a.put o.dst (.slice (some ⟨gb, 0, none⟩) (n + len) c)) w') :
    wpList Tryd.prog ops Q (o :: rest) a W := by
  have htk := hrow.take
  have hlt0 := World.ownsRow.lt hown g0 rfl
  rcases hrow with ⟨rfl, rfl, rfl, rfl⟩ | ⟨y, rfl, hl, hm, hz, hc, hw⟩
  · refine wpList_append_own_none hgd s x t ho B e i0 1 hu hi _ n xs hs hown hx ?_
    have hc0 : n ≤ c0 := by
      rcases hown.2 with ⟨hnil, _⟩ | ⟨gb, c, cur, e', _, _, hlc, _⟩
      · cases hnil
      · cases e'; exact hlc
    exact h g0 c0 W (by simpa using hown) hlt0.1 hlt0.2 (by simpa using hc0) (Below.refl _ _)
  · refine wpList_append_own _ hgd s x t ho B e i0 (.int k 0) 1 bytes hu hi hz0 hz1 hz2 rfl (by decide) _ n xs hs hown y len cap ((zs.take len).map (Value.int k)) hx (by rw [List.length_map, htk]; omega) ?_ (ints_oneCell k _) h63 hbytes hB ?_
    · intro j u hj
      rw [List.getElem?_map, List.getElem?_take] at hj
      by_cases hjl : j < len
      · rw [if_pos hjl] at hj
        have hlt : j < zs.length := by omega
        rw [List.getElem?_eq_getElem hlt] at hj
        simp at hj
        subst hj
        have hcj := hc j hlt
        rw [List.getD_eq_getElem?_getD, List.getElem?_eq_getElem hlt] at hcj
        exact hcj
      · rw [if_neg hjl] at hj
        simp at hj
    · intro v' w' hown' hg hiff
      rcases hown'.2 with ⟨hnil, _⟩ | ⟨gb, c, cur, rfl, hgb, hh, hlc, _⟩
      · have := (hiff.1 hnil).1
        cases this
      · exact h gb c w' hown' hgb (lt_of_block hh) hlc ((Below.refl B W).grown hg hB (fun q hq => by cases hq; exact hlt0.1))

/-- 'append(v, xs...)' once more, at a single operation. -/
theorem wp_grow {o : Oper} {a : Act} {K : Act → World → Prop} {Q : Exit → Act → World → Prop} (s x : Operand) (t : TypeId)
    (ho : o.op = .call { callee := .builtin .append, args := #[s, x], argTypes := #[t, t] }) (e : TypeId) (k : IntKind) (i0 : TypeInfo) (bytes : Nat) (hu : Tryd.prog.underlying t = some (.slice e)) (hi : Tryd.prog.info? e = some i0)
    (hz0 : i0.zero = some (.int k 0)) (hz1 : i0.size = 1) (hz2 : i0.bytes = bytes) (W : World) (B n : Nat) (g0 c0 : Nat) (xs : List Value) (hown : W.ownsRow B e 1 (.slice (some ⟨g0, 0, none⟩) n c0) n xs) (hB : B ≤ W.heap.size)
    (ao : Option Addr) (len cap : Nat) (zs : List Int) (hs : a.eval s = .slice (some ⟨g0, 0, none⟩) n c0) (hx : a.eval x = .slice ao len cap) (hrow : IsRow k bytes W ao len cap zs) (h63 : n + len ≤ maxLen) (hbytes : (n + len) * bytes ≤ 140737488355328)
    (h : ∀ gb c w', w'.ownsRow B e 1 (.slice (some ⟨gb, 0, none⟩) (n + len) c) (n + len) (xs ++ (zs.take len).map (Value.int k)) → B ≤ gb → gb < w'.heap.size → n + len ≤ c → Below B W w' → K (a.put o.dst (.slice (some ⟨gb, 0, none⟩) (n + len) c)) w') :
    o.wp Tryd.prog a W K Q := by
  have htk := hrow.take
  have hlt0 := World.ownsRow.lt hown g0 rfl
  rcases hrow with ⟨rfl, rfl, rfl, rfl⟩ | ⟨y, rfl, hl, hm, hz, hc, hw⟩
  · have hc0 : n ≤ c0 := by
      rcases hown.2 with ⟨hnil, _⟩ | ⟨gb, c, cur, e', _, _, hlc, _⟩
      · cases hnil
      · cases e'; exact hlc
    have hrun := run_append_owned_none (P := Tryd.prog) (w := W) B t o.type e i0 1 hu hi _ n xs hown
    unfold Oper.wp
    simp [execOp, ho, resolve, invoke, builtin, hs, hx, hrun, Result.andThen]
    exact h g0 c0 W (by simpa using hown) hlt0.1 hlt0.2 (by simpa using hc0) (Below.refl _ _)
  · refine wp_append_own W s x t ho B e i0 (.int k 0) 1 bytes hu hi hz0 hz1 hz2 rfl (by decide) _ n xs hs hown y len cap ((zs.take len).map (Value.int k)) hx (by rw [List.length_map, htk]; omega) ?_ (ints_oneCell k _) h63 hbytes hB ?_
    · intro j u hj
      rw [List.getElem?_map, List.getElem?_take] at hj
      by_cases hjl : j < len
      · rw [if_pos hjl] at hj
        have hlt : j < zs.length := by omega
        rw [List.getElem?_eq_getElem hlt] at hj
        simp at hj
        subst hj
        have hcj := hc j hlt
        rw [List.getD_eq_getElem?_getD, List.getElem?_eq_getElem hlt] at hcj
        exact hcj
      · rw [if_neg hjl] at hj
        simp at hj
    · intro v' w' hown' hg hiff
      rcases hown'.2 with ⟨hnil, _⟩ | ⟨gb, c, cur, rfl, hgb, hh, hlc, _⟩
      · have := (hiff.1 hnil).1
        cases this
      · exact h gb c w' hown' hgb (lt_of_block hh) hlc ((Below.refl B W).grown hg hB (fun q hq => by cases hq; exact hlt0.1))

/-- 'append([]T{}, xs...)': a copy in new memory. -/
theorem wpList_copy {ops : Array Oper} {rest : List Oper} {o : Oper} {a : Act} {Q : Exit → Act → World → Prop} (hgd : o.guard = none) (s x : Operand) (t : TypeId)
    (ho : o.op = .call { callee := .builtin .append, args := #[s, x], argTypes := #[t, t] }) (e : TypeId) (k : IntKind) (i0 : TypeInfo) (bytes : Nat) (hu : Tryd.prog.underlying t = some (.slice e)) (hi : Tryd.prog.info? e = some i0)
    (hz0 : i0.zero = some (.int k 0)) (hz1 : i0.size = 1) (hz2 : i0.bytes = bytes) (hpos : 0 < bytes) (W : World) (ao : Option Addr) (len cap : Nat) (zs : List Int) (hs : a.eval s = .slice (some ⟨W.heap.size, 0, none⟩) 0 0) (hx : a.eval x = .slice ao len cap)
    (hrow : IsRow k bytes W ao len cap zs)
    (h : ∀ gb c w', w'.ownsRow W.heap.size e 1 (.slice (some ⟨gb, 0, none⟩) len c) len ((zs.take len).map (Value.int k)) → W.heap.size ≤ gb → gb < w'.heap.size → len ≤ c → Below W.heap.size W w' → wpList Tryd.prog ops Q rest (a.put o.dst (.slice (some ⟨gb, 0, none⟩) len c)) w') :
    wpList Tryd.prog ops Q (o :: rest) a (W.alloc (.cells #[] e)) := by
  have hown0 : (W.alloc (.cells #[] e)).ownsRow W.heap.size e 1 (.slice (some ⟨W.heap.size, 0, none⟩) 0 0) 0 [] := World.ownsRow_made W #[] 0 (Nat.le_refl _) (Nat.zero_le _) rfl
  have hb0 : Below W.heap.size W (W.alloc (.cells #[] e)) := (Below.refl _ _).alloc (Nat.le_refl _) _
  have htk := hrow.take
  have hsm := hrow.small
  rcases hrow with ⟨rfl, rfl, rfl, rfl⟩ | ⟨y, rfl, hl, hm, hz, hc, hw⟩
  · refine wpList_append_own_none hgd s x t ho W.heap.size e i0 1 hu hi _ 0 [] hs hown0 hx ?_
    exact h _ _ _ hown0 (Nat.le_refl _) (by simp) (Nat.le_refl _) hb0
  · have hlb : len ≤ 140737488351232 := Nat.le_trans (Nat.le_mul_of_pos_right len hpos) hsm
    refine wpList_append_own _ hgd s x t ho W.heap.size e i0 (.int k 0) 1 bytes hu hi hz0 hz1 hz2 rfl (by decide) _ 0 [] hs hown0 y len cap ((zs.take len).map (Value.int k)) hx (by rw [List.length_map, htk]; omega) ?_ (ints_oneCell k _) (by unfold maxLen; omega) (by rw [Nat.zero_add]; omega) (by simp) ?_
    · intro j u hj
      rw [List.getElem?_map, List.getElem?_take] at hj
      by_cases hjl : j < len
      · rw [if_pos hjl] at hj
        have hlt : j < zs.length := by omega
        rw [List.getElem?_eq_getElem hlt] at hj
        simp at hj
        subst hj
        have hcj := hc j hlt
        rw [List.getD_eq_getElem?_getD, List.getElem?_eq_getElem hlt] at hcj
        exact (World.grownBy_alloc W _ none).cell hcj (by simp)
      · rw [if_neg hjl] at hj
        simp at hj
    · intro v' w' hown' hg hiff
      rw [Nat.zero_add, List.nil_append] at hown'
      rcases hown'.2 with ⟨hnil, _⟩ | ⟨gb, c, cur, rfl, hgb, hh, hlc, _⟩
      · have := (hiff.1 hnil).1
        cases this
      · exact h gb c w' hown' hgb (lt_of_block hh) hlc (hb0.grown hg (by simp) (fun q hq => by cases hq; exact Nat.le_refl _))

end Go.Proofs.YtfjgmbimapkabaaDoor
/-
  What the rows of a door have in common: the listed tables, and a world for the witness.
-/
namespace Go.Proofs.YtfjgmbimapkabaaDoor
open Go.ChangeShapes Go.WideShapes Go.ChangeAt Go.RowKit

theorem gTab : Tryd.prog.globalNamed "internal/strconv.uint64pow10" = some 0 := by kernel_rfl
theorem gTabType : (Tryd.prog.globals[0]?).map (·.type) = some 124 := by kernel_rfl
theorem cellsTab : Tryd.prog.cellsOf 124 = 20 := by kernel_rfl
theorem cellsU64 : Tryd.prog.cellsOf 109 = 1 := by kernel_rfl
theorem datumTab : (Rows.laid_internal_strconv_uint64pow10 : DataW Unit) = Lib.tabData .u64 Lib.pow10Tab := by kernel_rfl

/-- What the rows list. -/
def listed : List (String × DataW Unit) := [("math/bits.deBruijn32tab", Rows.laid_math_bits_deBruijn32tab), ("math/bits.deBruijn64tab", Rows.laid_math_bits_deBruijn64tab), ("internal/strconv.uint64pow10", Rows.laid_internal_strconv_uint64pow10)]

/-- The table of powers of ten reads as it is listed. -/
theorem table {W : World} (h : laidMet Tryd.prog listed W) : Tab W := by
  obtain ⟨ps, ⟨_, _, _, _, _, _, _, _, _, _, ⟨_, _, _, _, _, _, _, _, _, _, ⟨g, t, cs, fuel, p, q, hg, ht, hvar, hd, _, _⟩, _⟩, _⟩, _⟩ := h
  obtain rfl := Option.some.inj (gTab.symm.trans hg)
  obtain rfl := Option.some.inj (gTabType.symm.trans ht)
  rw [datumTab] at hd
  unfold Tab Lib.TabIs
  rw [hvar, ← Lib.cells_of_tab Tryd.underlying124 Tryd.underlying109 cellsU64 cellsTab hd]

/-- A list of numbers as cells. -/
def litCells : DataW Unit → Array Value
  | .agg l => (l.map fun
    | .lit (.int k n) => Value.int k n
    | _ => .bool false).toArray
  | _ => #[]

def setCellsOf (c : Array Value) : Obj → Obj
  | .cells _ t frozen => .cells c t frozen
  | o => o

/-- A world for the witness: the settled one, the three tables holding what their initialisers lay. -/
noncomputable def laidWorld (os : Os) : World :=
  { World.holding Tryd.prog os ⟨#[], #[], []⟩ with heap := (((World.holding Tryd.prog os ⟨#[], #[], []⟩).heap.modify 0 (setCellsOf (litCells Rows.laid_internal_strconv_uint64pow10))).modify 1 (setCellsOf (litCells Rows.laid_math_bits_deBruijn32tab))).modify 2 (setCellsOf (litCells Rows.laid_math_bits_deBruijn64tab)) }

end Go.Proofs.YtfjgmbimapkabaaDoor
