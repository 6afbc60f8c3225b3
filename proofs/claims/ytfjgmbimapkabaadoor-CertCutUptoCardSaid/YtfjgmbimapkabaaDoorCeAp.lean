/-
  Bytes appended to a string's bytes.
-/
import Derived.Test.YtfjgmbimapkabaaDoorCeLy
import Derived.Laws.Append
namespace Go.Proofs.YtfjgmbimapkabaaDoor
open Go.RowKit

/-- Cells are stored where no mark lies. -/
theorem store_unmarked17 (P : Program) (g o : Nat) (t : TypeId) (fz : Nat × Nat) : ∀ (vs : List Value) (i : Nat) (cur : Array Value) (w : World), w.heap[g]? = some (.cells cur t fz) → cur.size ≤ fz.1 → o + i + vs.length ≤ cur.size → (∀ v ∈ vs, v.oneCell' = true) →
    (storeCells ⟨g, o, none⟩ vs i).run P w = .ok () (w.setRow g (cur.toList.take (o + i) ++ vs ++ cur.toList.drop (o + i + vs.length)).toArray)
  | [], i, cur, w, hg, _, _, _ => by
    simp only [storeCells, List.append_nil, List.length_nil, Nat.add_zero, List.take_append_drop, Array.toArray_toList]
    rw [setRow_self w g cur t fz hg]
    rfl
  | v :: rest, i, cur, w, hg, hfz, hl, h1 => by
    have hi : o + i < cur.size := by simp at hl; omega
    have hadd : (⟨g, o, none⟩ : Addr).add i = ⟨g, o + i, none⟩ := by unfold Addr.add; split <;> simp_all
    have hcell : w.cell? ⟨g, o + i, none⟩ = some cur[o + i] := by simp [World.cell?, hg, hi]
    have hfro : w.frozen? ⟨g, o + i, none⟩ = false := by
      obtain ⟨lo, hi'⟩ := fz
      simp only [World.frozen?, hg, Bool.and_eq_false_iff, decide_eq_false_iff_not]
      left
      simp only at hfz
      omega
    have hst : (store ((⟨g, o, none⟩ : Addr).add i) v).run P w = .ok () (w.setRow g (cur.setIfInBounds (o + i) v)) := by
      rw [hadd, run_store P w _ v _ (h1 v (by simp)), hcell]
      simp [hfro, setCell_eq_setRow w g (o + i) cur t fz v hg]
    have ih := store_unmarked17 P g o t fz rest (i + 1) (cur.setIfInBounds (o + i) v) (w.setRow g (cur.setIfInBounds (o + i) v)) (setRow_heap w g cur _ t _ hg) (by simpa using hfz) (by simp at hl ⊢; omega) (fun x hx => h1 x (by simp [hx]))
    simp only [storeCells, Sem.run_bind, hst, Result.andThen_ok, ih, setRow_setRow]
    congr 3
    have e := list_seg_step cur.toList (o + i) v rest (by simp at hl ⊢; omega)
    simpa [Array.toList_setIfInBounds, Nat.add_assoc] using e

def cellsOf17 (n : Nat) (g : Nat → Int) : List Value := (List.range n).map fun i => Value.int .u8 (g i)
theorem cellsOf17_len (n : Nat) (g : Nat → Int) : (cellsOf17 n g).length = n := by simp [cellsOf17]
theorem cellsOf17_one {n : Nat} {g : Nat → Int} : ∀ v ∈ cellsOf17 n g, v.oneCell' = true := fun v hv => by
  simp only [cellsOf17, List.mem_map] at hv
  obtain ⟨i, -, rfl⟩ := hv
  rfl

/-- Both texts, one behind the other. -/
def both17 (L : List UInt8) (g : Nat → Int) (i : Nat) : Int := if i < L.length then Ce.ofL L i else g (i - L.length)

theorem text_row {w : World} {b n c : Nat} {fz : Nat × Nat} {L : List UInt8} {g : Nat → Int} {R : List Value} (hg : ∀ i, i < n → 0 ≤ g i ∧ g i ≤ 255) (h : w.heap[b]? = some (.cells (Lib.byteCells L ++ cellsOf17 n g ++ R).toArray 5 fz)) (_ : L.length + n ≤ c) :
    HasText w (some ⟨b, 0, none⟩) (L.length + n) (both17 L g) := fun i hi => by
  have hbl : (Lib.byteCells L).length = L.length := by simp [Lib.byteCells]
  by_cases hl : i < L.length
  · have e : both17 L g i = (L[i].toNat : Int) := by
      rw [both17, if_pos hl]
      unfold Ce.ofL
      rw [List.getElem?_eq_getElem hl]
    have hb := (Ce.ofL_txt L).lo i hl
    refine ⟨by rw [both17, if_pos hl]; exact hb, b, 0, rfl, ?_⟩
    rw [Nat.zero_add, cell_of_row w b i _ _ _ h, e]
    have h1 : i < (Lib.byteCells L).length := by omega
    rw [List.getElem?_toArray, List.append_assoc, List.getElem?_append_left h1]
    simp [Lib.byteCells, hl]
  · refine ⟨by rw [both17, if_neg hl]; exact hg _ (by omega), b, 0, rfl, ?_⟩
    rw [Nat.zero_add, cell_of_row w b i _ _ _ h, both17, if_neg hl]
    rw [List.getElem?_toArray, List.append_assoc, List.getElem?_append_right (by omega), hbl, List.getElem?_append_left (by rw [cellsOf17_len]; omega)]
    simp [cellsOf17, List.getElem?_range (show i - L.length < n by omega)]

/-- 'append([]byte(s), b...)', b not empty. -/
theorem run_append17 (ty : TypeId) (w : World) (L : List UInt8) {ao : Option Addr} {n cap : Nat} {g : Nat → Int} (hn : 0 < n) (ht : HasText (Lib.bytesWorld w 5 ⟨L.toArray⟩) ao n g) (hl : L.length + n ≤ 140737488355328) :
    ∃ b c w', (Builtin.append_ #[31, 31] ty #[.slice (some ⟨w.heap.size, 0, none⟩) L.length (grownCap w L.length 0 5), .slice ao n cap]).run Tryd.prog (Lib.bytesWorld w 5 ⟨L.toArray⟩) = .ok (.slice (some ⟨b, 0, none⟩) (L.length + n) c) w' ∧
      HasText w' (some ⟨b, 0, none⟩) (L.length + n) (both17 L g) ∧ b < w'.heap.size ∧ L.length + n ≤ c ∧ Below w.heap.size w w' := by
  obtain ⟨i0, hi, hz0, hz1, hz2⟩ := info_parts (show (Tryd.prog.info? 5).map (fun i => (i.zero, i.size, i.bytes)) = some (some (.int .u8 0), 1, 1) by kernel_rfl)
  have hB0 := sb_below w ⟨L.toArray⟩
  have hb := Lib.bytesWorld_at_new w 5 ⟨L.toArray⟩
  have hsz : (⟨L.toArray⟩ : ByteArray).size = L.length := by simp [ByteArray.size]
  have hge := grownCap_ge w L.length 0 5
  obtain ⟨C, hC⟩ : ∃ C, grownCap w L.length 0 5 = C := ⟨_, rfl⟩
  have hcells : Lib.bytesCells w 5 ⟨L.toArray⟩ = (Lib.byteCells L ++ List.replicate (C - L.length) (Value.int .u8 0)).toArray := by
    unfold Lib.bytesCells
    rw [hsz, hC]
    apply Array.toList_inj.1
    simp [Lib.byteCells]
  have hbl : (Lib.byteCells L).length = L.length := by simp [Lib.byteCells]
  have hcs : (Lib.bytesCells w 5 ⟨L.toArray⟩).size = C := by
    rw [hcells]
    simp [hbl]
    omega
  have hW : (Lib.bytesWorld w 5 ⟨L.toArray⟩).heap.size = w.heap.size + 1 := Lib.bytesWorld_size w _ _
  rw [hC] at hge ⊢
  obtain ⟨-, tb, to', rfl, -⟩ := ht 0 hn
  have hnews : ∀ j u, (cellsOf17 n g)[j]? = some u → (Lib.bytesWorld w 5 ⟨L.toArray⟩).cell? ((⟨tb, to', none⟩ : Addr).add j) = some u := fun j u hj => by
    have hjn : j < n := by have := (List.getElem?_eq_some_iff.1 hj).1; rwa [cellsOf17_len] at this
    obtain ⟨-, tb', to'', e, hc⟩ := ht j hjn
    cases e
    have ea : ((⟨tb, to', none⟩ : Addr).add j) = ⟨tb, to' + j, none⟩ := by unfold Addr.add; split <;> simp_all
    rw [ea, hc, ← hj]
    simp [cellsOf17, List.getElem?_range hjn]
  have hgb : ∀ i, i < n → 0 ≤ g i ∧ g i ≤ 255 := fun i hi => (ht i hi).1
  generalize Lib.bytesWorld w 5 ⟨L.toArray⟩ = W at hB0 hb ht hW hnews ⊢
  generalize Lib.bytesCells w 5 ⟨L.toArray⟩ = cur at hb hcells hcs
  by_cases hroom : L.length + n ≤ C
  · have hf := run_firstCells_some (P := Tryd.prog) W 1 n ⟨tb, to', none⟩ n cap (cellsOf17 n g) (by rw [cellsOf17_len, Nat.mul_one]) hnews
    have hst := store_unmarked17 Tryd.prog w.heap.size L.length 5 (cur.size, cur.size + 1) (cellsOf17 n g) 0 cur W hb (Nat.le_refl _) (by rw [cellsOf17_len]; omega) cellsOf17_one
    simp only [Nat.add_zero, cellsOf17_len] at hst
    refine ⟨w.heap.size, C, W.setRow w.heap.size (cur.toList.take L.length ++ cellsOf17 n g ++ cur.toList.drop (L.length + n)).toArray, ?_, ?_, ?_, hroom, ?_⟩
    · simp [Builtin.append_, run_underlying Tryd.underlying31, sizeOf, typeInfo, hi, hz1, Builtin.lenOf, hroom, hf, Addr.add_lit, hst]
    · refine text_row (c := C) (fz := (cur.size, cur.size + 1)) (R := cur.toList.drop (L.length + n)) hgb ?_ hroom
      have e : cur.toList.take L.length = Lib.byteCells L := by
        rw [hcells]
        simp [← hbl]
      rw [← e]
      exact setRow_heap W w.heap.size cur _ _ _ hb
    · simp
      omega
    · exact ⟨hB0.os, hB0.tape, hB0.output, by simp; omega, fun k hk => (setRow_other W w.heap.size k _ (by omega)).trans (hB0.block k hk)⟩
  · have holds : ∀ j u, (Lib.byteCells L)[j]? = some u → W.cell? ((⟨w.heap.size, 0, none⟩ : Addr).add j) = some u := fun j u hj => by
      have hjl : j < L.length := by have := (List.getElem?_eq_some_iff.1 hj).1; omega
      rw [addrE, cell_of_row W w.heap.size j cur _ _ hb, hcells, List.getElem?_toArray, List.getElem?_append_left (by omega)]
      exact hj
    have hr := run_append_grow (P := Tryd.prog) W 31 ty 5 i0 (.int .u8 0) Tryd.underlying31 hi hz0 ⟨w.heap.size, 0, none⟩ L.length C (Lib.byteCells L) (by rw [hz1, hbl, Nat.mul_one]) holds ⟨tb, to', none⟩ n cap (cellsOf17 n g) (by rw [hz1, cellsOf17_len, Nat.mul_one]) hnews (by omega) (by omega) (by rw [hz2]; exact growslice_fits (by omega) (by omega))
    refine ⟨W.heap.size, _, _, hr, ?_, by simp, grownCap_ge _ _ _ _, ?_⟩
    · refine text_row (c := L.length + n) (fz := (0, 0)) (R := (Builtin.zeroCells (Value.int .u8 0).cells (grownCap W (L.length + n) C 5 - (L.length + n))).toList) hgb ?_ (Nat.le_refl _)
      have e : ∀ Z : Array Value, (Lib.byteCells L ++ cellsOf17 n g ++ Z.toList).toArray = (Lib.byteCells L).toArray ++ (cellsOf17 n g).toArray ++ Z := fun Z => by simp
      rw [e]
      exact heap_alloc_new W.drew _
    · exact hB0.trans ((((Below.refl _ W).drew).alloc (Nat.le_refl _) _).mono hB0.size)

/-- The operation, for the walk. -/
theorem wpList_append17 {ops : Array Oper} {rest : List Oper} {o : Oper} {a : Act} {Q : Exit → Act → World → Prop} (hgd : o.guard = none) (sl x : Operand)
    (ho : o.op = .call { callee := .builtin .append, args := #[sl, x], argTypes := #[31, 31] }) (w : World) (L : List UInt8) {ao : Option Addr} {n cap : Nat} {g : Nat → Int} (hs : a.eval sl = .slice (some ⟨w.heap.size, 0, none⟩) L.length (grownCap w L.length 0 5)) (hx : a.eval x = .slice ao n cap)
    (hn : 0 < n) (ht : HasText w ao n g) (hl : L.length + n ≤ 140737488355328)
    (h : ∀ b c w', HasText w' (some ⟨b, 0, none⟩) (L.length + n) (both17 L g) → b < w'.heap.size → L.length + n ≤ c → Below w.heap.size w w' → wpList Tryd.prog ops Q rest (a.put o.dst (.slice (some ⟨b, 0, none⟩) (L.length + n) c)) w') : wpList Tryd.prog ops Q (o :: rest) a (Lib.bytesWorld w 5 ⟨L.toArray⟩) := by
  refine wpList_plain hgd fun K hK => ?_
  obtain ⟨b, c, w', hr, h2, h3, h4, h5⟩ := run_append17 o.type w L (cap := cap) hn (ht.later (sb_below w _)) hl
  unfold Oper.wp execOp
  simp only [ho, resolve, invoke, builtin, Sem.run_bind, Sem.run_pure, Result.andThen_ok, List.map_toArray, List.map_cons, List.map_nil, hs, hx, hr]
  exact hK _ _ (h b c w' h2 h3 h4 h5)
end Go.Proofs.YtfjgmbimapkabaaDoor
