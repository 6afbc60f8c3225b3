/-
  Bytes that were a string's, appended to: a row whose mark lies behind its last cell.
-/
import Derived.Test.YtmgjfakdjponoabDoorPaText
import Derived.Test.YtmgjfakdjponoabDoorAddr0
import Derived.Test.YtmgjfakdjponoabDoorLine0
import Derived.Lib.AppendStr
import Derived.Lib.FrozenHead
import Derived.Lib.ConvBytes
namespace Go.Proofs.YtmgjfakdjponoabDoor
open Go.RowKit

/-- Cells are stored where no mark lies. -/
theorem store_unmarked (P : Program) (g o : Nat) (t : TypeId) (fz : Nat × Nat) : ∀ (vs : List Value) (i : Nat) (cur : Array Value) (w : World), w.heap[g]? = some (.cells cur t fz) → cur.size ≤ fz.1 → o + i + vs.length ≤ cur.size → (∀ v ∈ vs, v.oneCell' = true) →
    (storeCells ⟨g, o, none⟩ vs i).run P w = .ok () (w.setRow g (cur.toList.take (o + i) ++ vs ++ cur.toList.drop (o + i + vs.length)).toArray)
  | [], i, cur, w, hg, _, _, _ => by
    simp only [storeCells, List.append_nil, List.length_nil, Nat.add_zero, List.take_append_drop, Array.toArray_toList]
    rw [setRow_self w g cur t fz hg]
    rfl
  | v :: rest, i, cur, w, hg, hfz, hl, h1 => by
    have hi : o + i < cur.size := by simp at hl; omega
    have hadd : (⟨g, o, none⟩ : Addr).add i = ⟨g, o + i, none⟩ := by unfold Addr.add; split <;> simp_all
    have hcell : w.cell? ⟨g, o + i, none⟩ = some cur[o + i] := by simp [World.cell?, hg, hi]
    have hfro : w.frozen? ⟨g, o + i, none⟩ = false := by
      obtain ⟨lo, hi'⟩ := fz
      simp only [World.frozen?, hg, Bool.and_eq_false_iff, decide_eq_false_iff_not]
      left
      simp only at hfz
      omega
    have hst : (store ((⟨g, o, none⟩ : Addr).add i) v).run P w = .ok () (w.setRow g (cur.setIfInBounds (o + i) v)) := by
      rw [hadd, run_store P w _ v _ (h1 v (by simp)), hcell]
      simp [hfro, setCell_eq_setRow w g (o + i) cur t fz v hg]
    have ih := store_unmarked P g o t fz rest (i + 1) (cur.setIfInBounds (o + i) v) (w.setRow g (cur.setIfInBounds (o + i) v)) (setRow_heap w g cur _ t _ hg) (by simpa using hfz) (by simp at hl ⊢; omega) (fun x hx => h1 x (by simp [hx]))
    simp only [storeCells, Sem.run_bind, hst, Result.andThen_ok, ih, setRow_setRow]
    congr 3
    have e := list_seg_step cur.toList (o + i) v rest (by simp at hl ⊢; omega)
    simpa [Array.toList_setIfInBounds, Nat.add_assoc] using e

/-- v is a row of the bytes L, laid since block B; a mark lies behind all its cells, or none. -/
def OwnB (w : World) (B : Nat) (v : Value) (L : List UInt8) : Prop :=
  ∃ g cap cur fz, v = .slice (some ⟨g, 0, none⟩) L.length cap ∧ B ≤ g ∧ w.heap[g]? = some (.cells cur 5 fz) ∧ (fz = (0, 0) ∨ cur.size ≤ fz.1) ∧ L.length ≤ cap ∧ cap ≤ maxLen ∧ cur.size = cap ∧ cur.toList.take L.length = Lib.byteCells L

theorem strCells_bytes (L : List UInt8) : Lib.strCells ⟨L.toArray⟩ = Lib.byteCells L := by simp [Lib.strCells, Lib.byteCells]

theorem OwnB.cells {w : World} {B : Nat} {v : Value} {L : List UInt8} (h : OwnB w B v L) : ∃ g cap, v = .slice (some ⟨g, 0, none⟩) L.length cap ∧ L.length ≤ cap ∧ B ≤ g ∧ g < w.heap.size ∧ ∀ j (hj : j < L.length), w.cell? ⟨g, j, none⟩ = some (.int .u8 (L[j].toNat : Int)) := by
  obtain ⟨g, cap, cur, fz, rfl, hB, hh, _, hl, _, hs, ht⟩ := h
  refine ⟨g, cap, rfl, hl, hB, lt_of_block hh, fun j hj => ?_⟩
  rw [cell_of_row w g j cur _ _ hh]
  have h1 : (cur.toList.take L.length)[j]? = (Lib.byteCells L)[j]? := by rw [ht]
  rw [List.getElem?_take, if_pos hj] at h1
  rw [← Array.getElem?_toList, h1]
  simp [Lib.byteCells, hj]

/-- 'append(b, s...)', s a string. -/
theorem run_append_B {w : World} {B : Nat} {v : Value} {L S : List UInt8} (ty : TypeId) (h : OwnB w B v L) (hl : L.length + S.length ≤ 140737488355328) (hB : B ≤ w.heap.size) :
    ∃ v' w', (Builtin.append_ #[44, 9] ty #[v, .string ⟨S.toArray⟩]).run Tryd.prog w = .ok v' w' ∧ OwnB w' B v' (L ++ S) ∧ w.grownBy w' v.ownBlock := by
  obtain ⟨i0, hi, hz0, hz1, hz2⟩ := info_parts (show (Tryd.prog.info? 5).map (fun i => (i.zero, i.size, i.bytes)) = some (some (.int .u8 0), 1, 1) by kernel_rfl)
  obtain ⟨g, cap, cur, fz, rfl, hg, hh, hfz, hlc, hcm, hcs, ht⟩ := h
  have hsz : (⟨S.toArray⟩ : ByteArray).size = S.length := by simp [ByteArray.size]
  have hxl : (Lib.byteCells L).length = L.length := by simp [Lib.byteCells]
  by_cases hroom : L.length + S.length ≤ cap
  · have hf := Lib.run_firstCells_string (P := Tryd.prog) w 1 ⟨S.toArray⟩
    have hst : (storeCells ⟨g, L.length, none⟩ (Lib.byteCells S) 0).run Tryd.prog w = .ok () (w.setRow g (cur.toList.take (L.length + 0) ++ Lib.byteCells S ++ cur.toList.drop (L.length + 0 + (Lib.byteCells S).length)).toArray) := by
      rw [← strCells_bytes]
      rcases hfz with rfl | hfz
      · exact run_storeCells_atF Tryd.prog g L.length 5 (0, 0) _ 0 cur w hh (Nat.zero_le _) (by rw [Lib.strCells_length, hsz]; omega) (Lib.strCells_oneCell _)
      · exact store_unmarked Tryd.prog g L.length 5 fz _ 0 cur w hh hfz (by rw [Lib.strCells_length, hsz]; omega) (Lib.strCells_oneCell _)
    rw [strCells_bytes] at hf
    have hbl : (Lib.byteCells S).length = S.length := by simp [Lib.byteCells]
    simp only [Nat.add_zero, hbl] at hst
    refine ⟨.slice (some ⟨g, 0, none⟩) (L.length + S.length) cap, w.setRow g (cur.toList.take L.length ++ Lib.byteCells S ++ cur.toList.drop (L.length + S.length)).toArray, ?_, ?_, ?_⟩
    · have hroom' : L.length + (⟨S.toArray⟩ : ByteArray).size ≤ cap := by rw [hsz]; exact hroom
      simp [Builtin.append_, run_underlying Tryd.underlying44, run_underlying Tryd.underlying9, sizeOf, typeInfo, hi, hz1, Builtin.lenOf, hroom', hf, Addr.add_lit, hst]
      simp [hsz]
    · refine ⟨g, cap, _, fz, by simp, hg, setRow_heap w g cur _ _ _ hh, ?_, by simp; omega, hcm, ?_, ?_⟩
      · rcases hfz with h | h
        · exact .inl h
        · refine .inr ?_
          simp only [List.size_toArray, List.length_append, List.length_take, List.length_drop, Array.length_toList, hbl]
          omega
      · simp only [List.size_toArray, List.length_append, List.length_take, List.length_drop, Array.length_toList, hbl]
        omega
      · rw [ht]
        have e : Lib.byteCells L ++ Lib.byteCells S = Lib.byteCells (L ++ S) := by simp [Lib.byteCells]
        rw [e]
        have e2 : (L ++ S).length = (Lib.byteCells (L ++ S)).length := by simp [Lib.byteCells]
        rw [e2]
        exact List.take_left
    · exact ⟨rfl, rfl, rfl, by simp, fun k _ hk => setRow_other w g k _ (fun e => hk (by simp [Value.ownBlock, e]))⟩
  · have holds : ∀ j u, (Lib.byteCells L)[j]? = some u → w.cell? ((⟨g, 0, none⟩ : Addr).add j) = some u := fun j u hj => by
      rw [addr0, cell_of_row w g j cur _ _ hh]
      rw [← ht, List.getElem?_take] at hj
      split at hj
      · simpa using hj
      · cases hj
    have hr := Lib.run_append_grow_string (P := Tryd.prog) w 44 9 ty 5 i0 (.int .u8 0) Tryd.underlying44 Tryd.underlying9 hi hz0 ⟨g, 0, none⟩ L.length cap (Lib.byteCells L) (by rw [hz1]; simpa using hxl) holds ⟨S.toArray⟩ (by rw [hsz]; omega) (by rw [hsz]; omega) (by rw [hz2, hsz]; exact growslice_fits (by omega) (by omega))
    rw [hsz] at hr
    have hge := grownCap_ge w (L.length + S.length) cap 5
    have hcm2 : grownCap w (L.length + S.length) cap 5 ≤ maxLen := grownCap_le_maxLen w (L.length + S.length) cap 5 (by unfold maxLen; omega)
    refine ⟨_, _, hr, ⟨w.heap.size, _, _, (0, 0), by simp, hB, heap_alloc_new w.drew _, .inl rfl, by simp; omega, hcm2, ?_, ?_⟩, ⟨rfl, rfl, rfl, by simp, fun k hk _ => Below.heap_alloc w.drew _ k hk⟩⟩
    · have hz1' : (Value.int IntKind.u8 0).cells.size = 1 := rfl
      simp only [Array.size_append, List.size_toArray, size_zeroCells, hz1', hxl, strCells_bytes]
      simp [Lib.byteCells]
      omega
    · simp only [Array.toList_append, List.append_assoc, strCells_bytes]
      have e : Lib.byteCells L ++ Lib.byteCells S = Lib.byteCells (L ++ S) := by simp [Lib.byteCells]
      have e2 : (L ++ S).length = (Lib.byteCells (L ++ S)).length := by simp [Lib.byteCells]
      rw [← List.append_assoc, e, e2]
      exact List.take_left

/-- The operation, for the walk. -/
theorem wpList_append_B {ops : Array Oper} {rest : List Oper} {o : Oper} {a : Act} {Q : Exit → Act → World → Prop} (hgd : o.guard = none) (sl x : Operand)
    (ho : o.op = .call { callee := .builtin .append, args := #[sl, x], argTypes := #[44, 9] }) (w : World) (B : Nat) (v : Value) (L S : List UInt8) (hs : a.eval sl = v) (hx : a.eval x = .string ⟨S.toArray⟩) (hown : OwnB w B v L)
    (hl : L.length + S.length ≤ 140737488355328) (hB : B ≤ w.heap.size)
    (h : ∀ v' w', OwnB w' B v' (L ++ S) → w.grownBy w' v.ownBlock → wpList Tryd.prog ops Q rest (a.put o.dst v') w') : wpList Tryd.prog ops Q (o :: rest) a w := by
  refine wpList_plain hgd fun K hK => ?_
  obtain ⟨v', w', hr, h2, h3⟩ := run_append_B o.type hown hl hB
  unfold Oper.wp execOp
  simp only [ho, resolve, invoke, builtin, Sem.run_bind, Sem.run_pure, Result.andThen_ok, List.map_toArray, List.map_cons, List.map_nil, hs, hx, hr]
  exact hK _ _ (h v' w' h2 h3)

end Go.Proofs.YtmgjfakdjponoabDoor
