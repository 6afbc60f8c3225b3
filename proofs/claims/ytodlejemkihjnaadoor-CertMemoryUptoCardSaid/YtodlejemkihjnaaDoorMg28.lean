import Derived.Test.YtodlejemkihjnaaDoorMg27
import Derived.Laws.Append
import Derived.Laws.AppendOwnNone
/-
  Bytes appended to a string's bytes.
-/
namespace Go.Proofs.YtodlejemkihjnaaDoor
open Go.RowKit

/-- Cells are stored where no mark lies. -/
theorem store_unmarked17 (P : Program) (g o : Nat) (t : TypeId) (fz : Nat × Nat) : ∀ (vs : List Value) (i : Nat) (cur : Array Value) (w : World), w.heap[g]? = some (.cells cur t fz) → cur.size ≤ fz.1 → o + i + vs.length ≤ cur.size → (∀ v ∈ vs, v.oneCell' = true) →
    (storeCells ⟨g, o, none⟩ vs i).run P w = .ok () (w.setRow g (cur.toList.take (o + i) ++ vs ++ cur.toList.drop (o + i + vs.length)).toArray)
  | [], i, cur, w, hg, _, _, _ => by
    simp only [storeCells, List.append_nil, List.length_nil, Nat.add_zero, List.take_append_drop, Array.toArray_toList]
    rw [setRow_self w g cur t fz hg]
    rfl
  | v :: rest, i, cur, w, hg, hfz, hl, h1 => by
    have hi : o + i < cur.size := by simp at hl; omega
    have hadd : (⟨g, o, none⟩ : Addr).add i = ⟨g, o + i, none⟩ := by unfold Addr.add; split <;> simp_all
    have hcell : w.cell? ⟨g, o + i, none⟩ = some cur[o + i] := by simp [World.cell?, hg, hi]
    have hfro : w.frozen? ⟨g, o + i, none⟩ = false := by
      obtain ⟨lo, hi'⟩ := fz
      simp only [World.frozen?, hg, Bool.and_eq_false_iff, decide_eq_false_iff_not]
      left
      simp only at hfz
      omega
    have hst : (store ((⟨g, o, none⟩ : Addr).add i) v).run P w = .ok () (w.setRow g (cur.setIfInBounds (o + i) v)) := by
      rw [hadd, run_store P w _ v _ (h1 v (by simp)), hcell]
      simp [hfro, setCell_eq_setRow w g (o + i) cur t fz v hg]
    have ih := store_unmarked17 P g o t fz rest (i + 1) (cur.setIfInBounds (o + i) v) (w.setRow g (cur.setIfInBounds (o + i) v)) (setRow_heap w g cur _ t _ hg) (by simpa using hfz) (by simp at hl ⊢; omega) (fun x hx => h1 x (by simp [hx]))
    simp only [storeCells, Sem.run_bind, hst, Result.andThen_ok, ih, setRow_setRow]
    congr 3
    have e := list_seg_step cur.toList (o + i) v rest (by simp at hl ⊢; omega)
    simpa [Array.toList_setIfInBounds, Nat.add_assoc] using e

def cellsOf17 (n : Nat) (g : Nat → Int) : List Value := (List.range n).map fun i => Value.int .u8 (g i)
theorem cellsOf17_len (n : Nat) (g : Nat → Int) : (cellsOf17 n g).length = n := by simp [cellsOf17]
theorem cellsOf17_one {n : Nat} {g : Nat → Int} : ∀ v ∈ cellsOf17 n g, v.oneCell' = true := fun v hv => by
  simp only [cellsOf17, List.mem_map] at hv
  obtain ⟨i, -, rfl⟩ := hv
  rfl

/-- Both texts, one behind the other. -/
def both17 (L : List UInt8) (g : Nat → Int) (i : Nat) : Int := if i < L.length then Ce.ofL L i else g (i - L.length)

theorem text_row {w : World} {b n c : Nat} {fz : Nat × Nat} {L : List UInt8} {g : Nat → Int} {R : List Value} (hg : ∀ i, i < n → 0 ≤ g i ∧ g i ≤ 255) (h : w.heap[b]? = some (.cells (Lib.byteCells L ++ cellsOf17 n g ++ R).toArray 5 fz)) (_ : L.length + n ≤ c) :
    HasText w (some ⟨b, 0, none⟩) (L.length + n) (both17 L g) := fun i hi => by
  have hbl : (Lib.byteCells L).length = L.length := by simp [Lib.byteCells]
  by_cases hl : i < L.length
  · have e : both17 L g i = (L[i].toNat : Int) := by
      rw [both17, if_pos hl]
      unfold Ce.ofL
      rw [List.getElem?_eq_getElem hl]
    have hb := (Ce.ofL_txt L).lo i hl
    refine ⟨by rw [both17, if_pos hl]; exact hb, b, 0, rfl, ?_⟩
    rw [Nat.zero_add, cell_of_row w b i _ _ _ h, e]
    have h1 : i < (Lib.byteCells L).length := by omega
    rw [List.getElem?_toArray, List.append_assoc, List.getElem?_append_left h1]
    simp [Lib.byteCells, hl]
  · refine ⟨by rw [both17, if_neg hl]; exact hg _ (by omega), b, 0, rfl, ?_⟩
    rw [Nat.zero_add, cell_of_row w b i _ _ _ h, both17, if_neg hl]
    rw [List.getElem?_toArray, List.append_assoc, List.getElem?_append_right (by omega), hbl, List.getElem?_append_left (by rw [cellsOf17_len]; omega)]
    simp [cellsOf17, List.getElem?_range (show i - L.length < n by omega)]

/-- 'append([]byte(s), b...)', b not empty. -/
theorem run_append17 (ty : TypeId) (w : World) (L : List UInt8) {ao : Option Addr} {n cap : Nat} {g : Nat → Int} (hn : 0 < n) (ht : HasText (Lib.bytesWorld w 5 ⟨L.toArray⟩) ao n g) (hl : L.length + n ≤ 140737488355328) :
    ∃ b c w', (Builtin.append_ #[26, 26] ty #[.slice (some ⟨w.heap.size, 0, none⟩) L.length (grownCap w L.length 0 5), .slice ao n cap]).run Tryd.prog (Lib.bytesWorld w 5 ⟨L.toArray⟩) = .ok (.slice (some ⟨b, 0, none⟩) (L.length + n) c) w' ∧
      HasText w' (some ⟨b, 0, none⟩) (L.length + n) (both17 L g) ∧ b < w'.heap.size ∧ L.length + n ≤ c ∧ Below w.heap.size w w' := by
  obtain ⟨i0, hi, hz0, hz1, hz2⟩ := info_parts (show (Tryd.prog.info? 5).map (fun i => (i.zero, i.size, i.bytes)) = some (some (.int .u8 0), 1, 1) by kernel_rfl)
  have hB0 := sb_below w ⟨L.toArray⟩
  have hb := Lib.bytesWorld_at_new w 5 ⟨L.toArray⟩
  have hsz : (⟨L.toArray⟩ : ByteArray).size = L.length := by simp [ByteArray.size]
  have hge := grownCap_ge w L.length 0 5
  obtain ⟨C, hC⟩ : ∃ C, grownCap w L.length 0 5 = C := ⟨_, rfl⟩
  have hcells : Lib.bytesCells w 5 ⟨L.toArray⟩ = (Lib.byteCells L ++ List.replicate (C - L.length) (Value.int .u8 0)).toArray := by
    unfold Lib.bytesCells
    rw [hsz, hC]
    apply Array.toList_inj.1
    simp [Lib.byteCells]
  have hbl : (Lib.byteCells L).length = L.length := by simp [Lib.byteCells]
  have hcs : (Lib.bytesCells w 5 ⟨L.toArray⟩).size = C := by
    rw [hcells]
    simp [hbl]
    omega
  have hW : (Lib.bytesWorld w 5 ⟨L.toArray⟩).heap.size = w.heap.size + 1 := Lib.bytesWorld_size w _ _
  rw [hC] at hge ⊢
  obtain ⟨-, tb, to', rfl, -⟩ := ht 0 hn
  have hnews : ∀ j u, (cellsOf17 n g)[j]? = some u → (Lib.bytesWorld w 5 ⟨L.toArray⟩).cell? ((⟨tb, to', none⟩ : Addr).add j) = some u := fun j u hj => by
    have hjn : j < n := by have := (List.getElem?_eq_some_iff.1 hj).1; rwa [cellsOf17_len] at this
    obtain ⟨-, tb', to'', e, hc⟩ := ht j hjn
    cases e
    have ea : ((⟨tb, to', none⟩ : Addr).add j) = ⟨tb, to' + j, none⟩ := by unfold Addr.add; split <;> simp_all
    rw [ea, hc, ← hj]
    simp [cellsOf17, List.getElem?_range hjn]
  have hgb : ∀ i, i < n → 0 ≤ g i ∧ g i ≤ 255 := fun i hi => (ht i hi).1
  generalize Lib.bytesWorld w 5 ⟨L.toArray⟩ = W at hB0 hb ht hW hnews ⊢
  generalize Lib.bytesCells w 5 ⟨L.toArray⟩ = cur at hb hcells hcs
  by_cases hroom : L.length + n ≤ C
  · have hf := run_firstCells_some (P := Tryd.prog) W 1 n ⟨tb, to', none⟩ n cap (cellsOf17 n g) (by rw [cellsOf17_len, Nat.mul_one]) hnews
    have hst := store_unmarked17 Tryd.prog w.heap.size L.length 5 (cur.size, cur.size + 1) (cellsOf17 n g) 0 cur W hb (Nat.le_refl _) (by rw [cellsOf17_len]; omega) cellsOf17_one
    simp only [Nat.add_zero, cellsOf17_len] at hst
    refine ⟨w.heap.size, C, W.setRow w.heap.size (cur.toList.take L.length ++ cellsOf17 n g ++ cur.toList.drop (L.length + n)).toArray, ?_, ?_, ?_, hroom, ?_⟩
    · simp [Builtin.append_, run_underlying Tryd.underlying26, sizeOf, typeInfo, hi, hz1, Builtin.lenOf, hroom, hf, Addr.add_lit, hst]
    · refine text_row (c := C) (fz := (cur.size, cur.size + 1)) (R := cur.toList.drop (L.length + n)) hgb ?_ hroom
      have e : cur.toList.take L.length = Lib.byteCells L := by
        rw [hcells]
        simp [← hbl]
      rw [← e]
      exact setRow_heap W w.heap.size cur _ _ _ hb
    · simp
      omega
    · exact ⟨hB0.os, hB0.tape, hB0.output, by simp; omega, fun k hk => (setRow_other W w.heap.size k _ (by omega)).trans (hB0.block k hk)⟩
  · have holds : ∀ j u, (Lib.byteCells L)[j]? = some u → W.cell? ((⟨w.heap.size, 0, none⟩ : Addr).add j) = some u := fun j u hj => by
      have hjl : j < L.length := by have := (List.getElem?_eq_some_iff.1 hj).1; omega
      rw [addrE, cell_of_row W w.heap.size j cur _ _ hb, hcells, List.getElem?_toArray, List.getElem?_append_left (by omega)]
      exact hj
    have hr := run_append_grow (P := Tryd.prog) W 26 ty 5 i0 (.int .u8 0) Tryd.underlying26 hi hz0 ⟨w.heap.size, 0, none⟩ L.length C (Lib.byteCells L) (by rw [hz1, hbl, Nat.mul_one]) holds ⟨tb, to', none⟩ n cap (cellsOf17 n g) (by rw [hz1, cellsOf17_len, Nat.mul_one]) hnews (by omega) (by omega) (by rw [hz2]; exact growslice_fits (by omega) (by omega))
    refine ⟨W.heap.size, _, _, hr, ?_, by simp, grownCap_ge _ _ _ _, ?_⟩
    · refine text_row (c := L.length + n) (fz := (0, 0)) (R := (Builtin.zeroCells (Value.int .u8 0).cells (grownCap W (L.length + n) C 5 - (L.length + n))).toList) hgb ?_ (Nat.le_refl _)
      have e : ∀ Z : Array Value, (Lib.byteCells L ++ cellsOf17 n g ++ Z.toList).toArray = (Lib.byteCells L).toArray ++ (cellsOf17 n g).toArray ++ Z := fun Z => by simp
      rw [e]
      exact heap_alloc_new W.drew _
    · exact hB0.trans ((((Below.refl _ W).drew).alloc (Nat.le_refl _) _).mono hB0.size)

/-- The operation, for the walk. -/
theorem wpList_append17 {ops : Array Oper} {rest : List Oper} {o : Oper} {a : Act} {Q : Exit → Act → World → Prop} (hgd : o.guard = none) (sl x : Operand)
    (ho : o.op = .call { callee := .builtin .append, args := #[sl, x], argTypes := #[26, 26] }) (w : World) (L : List UInt8) {ao : Option Addr} {n cap : Nat} {g : Nat → Int} (hs : a.eval sl = .slice (some ⟨w.heap.size, 0, none⟩) L.length (grownCap w L.length 0 5)) (hx : a.eval x = .slice ao n cap)
    (hn : 0 < n) (ht : HasText w ao n g) (hl : L.length + n ≤ 140737488355328)
    (h : ∀ b c w', HasText w' (some ⟨b, 0, none⟩) (L.length + n) (both17 L g) → b < w'.heap.size → L.length + n ≤ c → Below w.heap.size w w' → wpList Tryd.prog ops Q rest (a.put o.dst (.slice (some ⟨b, 0, none⟩) (L.length + n) c)) w') : wpList Tryd.prog ops Q (o :: rest) a (Lib.bytesWorld w 5 ⟨L.toArray⟩) := by
  refine wpList_plain hgd fun K hK => ?_
  obtain ⟨b, c, w', hr, h2, h3, h4, h5⟩ := run_append17 o.type w L (cap := cap) hn (ht.later (sb_below w _)) hl
  unfold Oper.wp execOp
  simp only [ho, resolve, invoke, builtin, Sem.run_bind, Sem.run_pure, Result.andThen_ok, List.map_toArray, List.map_cons, List.map_nil, hs, hx, hr]
  exact hK _ _ (h b c w' h2 h3 h4 h5)
end Go.Proofs.YtodlejemkihjnaaDoor

/-
  Six certificates, each in memory of its own; a list of them.
-/
namespace Go.Proofs.YtodlejemkihjnaaDoor
open Go.RowKit

theorem Tryd.infoCert : (Tryd.prog.info? 25).map (fun i => (i.zero, i.size, i.bytes)) = some (some (.agg #[.bool false, .slice none 0 0, .slice none 0 0]), 3, 56) := by kernel_rfl

/-- b is the block of one of the slices. -/
def inV17 (vs : List Value) (b : Nat) : Prop := ∃ (u : Nat) (x : Value), vs[u]? = some x ∧ x.ownBlock = some b
theorem cell_three_new17 (w : World) (x y z : Value) (t : TypeId) : ∀ j u, [x, y, z][j]? = some u → (w.alloc (.cells #[x, y, z] t)).cell? ((⟨w.heap.size, 0, none⟩ : Addr).add j) = some u := by
  intro j u hj
  exact World.news_of_block (heap_alloc_new w (.cells #[x, y, z] t)) j u (by simpa using hj)

theorem own_below17 {w w' : World} {B n size : Nat} {e : TypeId} {v : Value} {xs : List Value} (h : w.ownsRow B e size v n xs) (hb : Below w.heap.size w w') : w'.ownsRow B e size v n xs := row_same h fun g _ _ h2 => hb.block g h2

theorem conv_text17 {W : World} {ao : Option Addr} {n c : Nat} {g : Nat → Int} (h : HasText W ao n g) (hc : ao = none → n = 0) :
    (convert 26 9 (.slice ao n c)).run Tryd.prog W = .ok (.string ⟨(Nu.bytesAt g 0 n).toArray⟩) W := by
  have hl := Nu.bytesAt_length g 0 n
  cases ao with
  | none =>
    have := hc rfl
    subst this
    rw [run_convert_bytes_string W 26 9 5 none 0 c Tryd.underlying26 Tryd.underlying5 Tryd.underlying9]
    simp [Conv.bytesToString, Nu.bytesAt]
    rfl
  | some a =>
    have := run_convert_bytes_back (P := Tryd.prog) W 26 9 5 a c (Nu.bytesAt g 0 n) Tryd.underlying26 Tryd.underlying5 Tryd.underlying9 (fun j hj => by
      obtain ⟨⟨b0, b1⟩, tb, to', e, hcj⟩ := h j (by omega)
      cases e
      have e2 : ((⟨tb, to', none⟩ : Addr).add j) = ⟨tb, to' + j, none⟩ := by
        by_cases h0 : j = 0 <;> simp [Addr.add, h0]
      rw [e2, hcj, Nu.bytesAt_get g 0 n j hj, Nat.zero_add]
      congr 2
      simp
      omega)
    rw [hl] at this
    exact this

theorem types_apart17 {w : World} {B B' n n' s s' : Nat} {e e' : TypeId} {vo va : Value} {xs ys : List Value} (h : w.ownsRow B e s vo n xs) (h' : w.ownsRow B' e' s' va n' ys) (he : e ≠ e') : vo.ownBlock = none ∨ vo.ownBlock ≠ va.ownBlock := by
  rcases h.2 with ⟨rfl, _⟩ | ⟨g, cap, cur, rfl, _, hh, _⟩
  · exact .inl rfl
  · right
    rcases h'.2 with ⟨rfl, _⟩ | ⟨g', cap', cur', rfl, _, hh', _⟩
    · simp [Value.ownBlock]
    · intro e
      simp [Value.ownBlock] at e
      subst e
      rw [hh] at hh'
      cases hh'
      exact he rfl

namespace Cm
structure Ct where
  av : Value
  ev : Value
  vs : List Value
  lo : Nat
  hi : Nat
/-- One certificate's blocks. -/
def Ct.has (c : Ct) (b : Nat) : Prop := c.av.ownBlock = some b ∨ inV17 c.vs b ∨ c.ev.ownBlock = some b
structure At (ar : List (List Int)) (es : List (Int × Int)) (w : World) (c : Ct) : Prop where
  rows : RowsZ w c.lo c.av c.vs ar
  edges : OwnE w c.lo c.ev es
  top : ∀ b, c.has b → c.lo ≤ b ∧ b < c.hi
  le : c.lo ≤ c.hi
  sz : c.hi ≤ w.heap.size
structure Six (ar : List (List Int)) (es : List (Int × Int)) (w : World) (cs : List Ct) : Prop where
  at' : ∀ (k : Nat) (c : Ct), cs[k]? = some c → At ar es w c
  far : ∀ (j k : Nat) (c d : Ct), j < k → cs[j]? = some c → cs[k]? = some d → c.hi ≤ d.lo
def flat (b : Bool) (cs : List Ct) : List Value := cs.flatMap fun c => [.bool b, c.av, c.ev]
section
variable {ar : List (List Int)} {es : List (Int × Int)} {w w' : World} {cs : List Ct} {c : Ct}
theorem At.kept (h : At ar es w c) (hs : w.heap.size ≤ w'.heap.size) (hb : ∀ b, c.has b → w'.heap[b]? = w.heap[b]?) : At ar es w' c :=
  ⟨⟨h.rows.len, row_same h.rows.outer fun g hg _ _ => hb g (.inl hg), fun u x l hx hl => (h.rows.row u x l hx hl).same fun g hg _ => hb g (.inr (.inl ⟨u, x, hx, hg⟩)), h.rows.apart, h.rows.far⟩, row_same h.edges fun g hg _ _ => hb g (.inr (.inr hg)), h.top, h.le, Nat.le_trans h.sz hs⟩
theorem At.later (h : At ar es w c) (hb : Below w.heap.size w w') : At ar es w' c := h.kept hb.size fun b hc => hb.block b (by have := (h.top b hc).2; have := h.sz; omega)
theorem Six.later (h : Six ar es w cs) (hb : Below w.heap.size w w') : Six ar es w' cs := ⟨fun k c hc => (h.at' k c hc).later hb, h.far⟩
theorem Six.kept (h : Six ar es w cs) (hs : w.heap.size ≤ w'.heap.size) (hb : ∀ (k : Nat) (c : Ct) (b : Nat), cs[k]? = some c → c.has b → w'.heap[b]? = w.heap[b]?) : Six ar es w' cs := ⟨fun k c hc => (h.at' k c hc).kept hs fun b => hb k c b hc, h.far⟩
theorem Six.nil (w : World) : Six ar es w [] := ⟨fun k c h => by simp at h, fun j k c d _ h => by simp at h⟩
theorem Six.snoc (h : Six ar es w cs) (hb : Below w.heap.size w w') (hc : At ar es w' c) (hlo : w.heap.size ≤ c.lo) : Six ar es w' (cs ++ [c]) := by
  refine ⟨fun k d hd => ?_, fun j k d e hjk hd he => ?_⟩
  · by_cases hk : k < cs.length
    · rw [List.getElem?_append_left hk] at hd
      exact (h.at' k d hd).later hb
    · rw [List.getElem?_append_right (by omega)] at hd
      have := (List.getElem?_eq_some_iff.1 hd).1
      simp at this
      rw [show k - cs.length = 0 by omega] at hd
      cases hd
      exact hc
  · have hk := (List.getElem?_eq_some_iff.1 he).1
    simp at hk
    rw [List.getElem?_append_left (by omega)] at hd
    by_cases hkl : k < cs.length
    · rw [List.getElem?_append_left hkl] at he
      exact h.far j k d e hjk hd he
    · rw [List.getElem?_append_right (by omega), show k - cs.length = 0 by omega] at he
      cases he
      exact Nat.le_trans (h.at' j d hd).sz hlo
/-- A parsed certificate. -/
theorem At.parsed {v : Value} {x : Ce.Cert} {B : Nat} (h : CertAt w B v x) (hB : B ≤ w.heap.size) : ∃ c : Ct, v = .agg #[.bool x.pl, c.av, c.ev] ∧ c.lo = B ∧ At x.ar x.es w c := by
  obtain ⟨va, ve, vs, rfl, hr, ho⟩ := h
  refine ⟨⟨va, ve, vs, B, w.heap.size⟩, rfl, rfl, hr, ho, fun b hb => ?_, hB, Nat.le_refl _⟩
  rcases hb with hb | ⟨u, y, hy, hb⟩ | hb
  · exact World.ownsRow.lt hr.outer b hb
  · obtain ⟨l, hl⟩ := hr.at hy
    exact World.ownsRow.lt (hr.row u y l hy hl) b hb
  · exact World.ownsRow.lt ho b hb
/-- A block of another kind is none of theirs. -/
theorem At.other (h : At ar es w c) {b : Nat} {arr : Array Value} {t : TypeId} {fr : Nat × Nat} (hb : w.heap[b]? = some (.cells arr t fr)) (h1 : t ≠ 3) (h2 : t ≠ 39) (h3 : t ≠ 41) : ¬ c.has b := by
  rintro (hc | ⟨u, y, hy, hc⟩ | hc)
  · exact own_ne h.rows.outer hb (fun e => h2 e.symm) hc
  · obtain ⟨l, hl⟩ := h.rows.at hy
    exact own_ne (h.rows.row u y l hy hl) hb (fun e => h1 e.symm) hc
  · exact own_ne h.edges hb (fun e => h3 e.symm) hc
theorem At.grown (h : At ar es w c) {B s n : Nat} {t : TypeId} {v : Value} {xs : List Value} (hr : w.ownsRow B t s v n xs) (h1 : t ≠ 3) (h2 : t ≠ 39) (h3 : t ≠ 41) (hg : w.grownBy w' v.ownBlock) : At ar es w' c := by
  refine h.kept hg.size fun b hb => hg.block b (by have := (h.top b hb).2; have := h.sz; omega) fun e => ?_
  rcases hr.2 with ⟨rfl, -⟩ | ⟨g, cap, cur, rfl, -, hh, -⟩
  · cases e
  · cases e
    exact h.other hh h1 h2 h3 hb
theorem At.cert (h : At ar es w c) (b : Bool) : CertAt w c.lo (.agg #[.bool b, c.av, c.ev]) ⟨b, ar, es⟩ := ⟨_, _, c.vs, rfl, h.rows, h.edges⟩
theorem Six.grown (h : Six ar es w cs) {B s n : Nat} {t : TypeId} {v : Value} {xs : List Value} (hr : w.ownsRow B t s v n xs) (h1 : t ≠ 3) (h2 : t ≠ 39) (h3 : t ≠ 41) (hg : w.grownBy w' v.ownBlock) : Six ar es w' cs := by
  refine h.kept hg.size fun k c b hc hb => hg.block b (by have := ((h.at' k c hc).top b hb).2; have := (h.at' k c hc).sz; omega) fun e => ?_
  rcases hr.2 with ⟨rfl, -⟩ | ⟨g, cap, cur, rfl, -, hh, -⟩
  · cases e
  · cases e
    exact (h.at' k c hc).other hh h1 h2 h3 hb
theorem Six.pushed (h : Six ar es w cs) {B s n : Nat} {t : TypeId} {v : Value} {xs : List Value} {o : Obj} (hr : w.ownsRow B t s v n xs) (h1 : t ≠ 3) (h2 : t ≠ 39) (h3 : t ≠ 41) (hg : (w.alloc o).grownBy w' v.ownBlock) : Six ar es w' cs :=
  (h.later ((Below.refl _ _).alloc (Nat.le_refl _) o)).grown (World.ownsRow.alloc hr o) h1 h2 h3 hg
end
theorem flat_snoc (b : Bool) (cs : List Ct) (c : Ct) : flat b (cs ++ [c]) = flat b cs ++ [.bool b, c.av, c.ev] := by simp [flat]
theorem flat_len (b : Bool) (cs : List Ct) : (flat b cs).length = cs.length * 3 := by
  induction cs with
  | nil => rfl
  | cons c r ih =>
    have : (flat b (c :: r)).length = 3 + (flat b r).length := by simp [flat]; omega
    rw [this, ih, List.length_cons]
    omega
theorem flat_at (b : Bool) : ∀ (cs : List Ct) (k : Nat) (c : Ct), cs[k]? = some c → (flat b cs)[k * 3]? = some (.bool b) ∧ (flat b cs)[k * 3 + 1]? = some c.av ∧ (flat b cs)[k * 3 + 2]? = some c.ev
  | d :: r, 0, c, h => by cases h; exact ⟨rfl, rfl, rfl⟩
  | d :: r, k + 1, c, h => by
    have := flat_at b r k c (by simpa using h)
    rw [show (k + 1) * 3 = k * 3 + 1 + 1 + 1 by omega]
    simpa [flat] using this
end Cm

/-- 'append(v, x)', v a list of certificates of one's own. -/
theorem wpList_pushC17 {ops : Array Oper} {rest : List Oper} {o : Oper} {a : Act} {Q : Exit → Act → World → Prop} (hgd : o.guard = none) (s x : Operand)
    (ho : o.op = .call { callee := .builtin .append, args := #[s, x], argTypes := #[36, 36] }) (W : World) (B : Nat) (v : Value) (xs : List Value) (m : Nat) (b : Bool) (ao eo : Option Addr) (an ac en ec : Nat) (hown : W.ownsRow B 25 3 v m xs)
    (hB : B ≤ W.heap.size) (hl : m ≤ 1000) (hs : a.eval s = v) (hx : a.eval x = .slice (some ⟨W.heap.size, 0, none⟩) 1 1)
    (h : ∀ v' w', w'.ownsRow B 25 3 v' (m + 1) (xs ++ [.bool b, .slice ao an ac, .slice eo en ec]) → (W.alloc (.cells #[.bool b, .slice ao an ac, .slice eo en ec] 25)).grownBy w' v.ownBlock → wpList Tryd.prog ops Q rest (a.put o.dst v') w') :
    wpList Tryd.prog ops Q (o :: rest) a (W.alloc (.cells #[.bool b, .slice ao an ac, .slice eo en ec] 25)) := by
  obtain ⟨i0, hi, hz0, hz1, hz2⟩ := info_parts Tryd.infoCert
  refine wpList_append_own _ hgd s x 36 ho B 25 i0 (.agg #[.bool false, .slice none 0 0, .slice none 0 0]) 3 56 Tryd.underlying36 hi hz0 hz1 hz2 rfl (by decide) _ _ _ hs (World.ownsRow.alloc hown _) ⟨W.heap.size, 0, none⟩ 1 1 [.bool b, .slice ao an ac, .slice eo en ec] hx rfl (cell_three_new17 _ _ _ _ _) (by simp [Value.oneCell']) (by unfold maxLen; omega) (by omega) (by simp; omega) ?_
  intro v' w' hown' hg _
  exact h v' w' hown' hg
end Go.Proofs.YtodlejemkihjnaaDoor

/-
  A list of lists put behind another; a list of edges put behind a list of such.
-/
namespace Go.Proofs.YtodlejemkihjnaaDoor
open Go.RowKit

theorem Tryd.infoRowE17 : (Tryd.prog.info? 23).map (fun i => (i.zero, i.size, i.bytes)) = some (some (.slice none 0 0), 1, 24) := by kernel_rfl

theorem RowsZ.one {w : World} {B : Nat} {v : Value} {vs : List Value} {ls : List (List Int)} (h : RowsZ w B v vs ls) : ∀ u ∈ vs, u.oneCell' = true := fun u hu => by
  obtain ⟨k, hk, e⟩ := List.mem_iff_getElem.1 hu
  have hx : vs[k]? = some u := by rw [List.getElem?_eq_getElem hk, e]
  obtain ⟨l, hl⟩ := h.at hx
  obtain ⟨xa, xc, rfl, -⟩ := (h.row k u l hx hl).form
  rfl

/-- 'append(v, rows...)'. -/
theorem wpList_appR17 {ops : Array Oper} {rest : List Oper} {o : Oper} {a : Act} {Q : Exit → Act → World → Prop} (hgd : o.guard = none) (s x : Operand)
    (ho : o.op = .call { callee := .builtin .append, args := #[s, x], argTypes := #[22, 22] }) (W : World) (B : Nat) (v : Value) (m p : Nat) (xs vs : List Value) (hown : W.ownsRow B 39 1 v m xs) {lo : Nat} {av : Value} {ar : List (List Int)} (hr : RowsZ W lo av vs ar) (hp : ar.length = p)
    (hB : B ≤ W.heap.size) (hl : m + p ≤ 100000000) (hs : a.eval s = v) (hx : a.eval x = av)
    (h : ∀ v' w', w'.ownsRow B 39 1 v' (m + p) (xs ++ vs) → W.grownBy w' v.ownBlock → wpList Tryd.prog ops Q rest (a.put o.dst v') w') :
    wpList Tryd.prog ops Q (o :: rest) a W := by
  obtain ⟨i1, hi1, hy0, hy1, hy2⟩ := info_parts Tryd.infoRow
  subst hp
  rcases hr.outer.2 with ⟨e, h0⟩ | ⟨g, cap, cur, e, -⟩
  · have hv0 : vs = [] := List.length_eq_zero_iff.1 (by rw [hr.len]; exact h0)
    refine wpList_append_own_none hgd s x 22 ho B 39 i1 1 Tryd.underlying22 hi1 v m xs hs hown (by rw [hx, e]) ?_
    exact h v W (by rw [h0, hv0, List.append_nil]; exact hown) ⟨rfl, rfl, rfl, Nat.le_refl _, fun _ _ _ => rfl⟩
  · refine wpList_append_own _ hgd s x 22 ho B 39 i1 (.slice none 0 0) 1 24 Tryd.underlying22 hi1 hy0 hy1 hy2 rfl (by decide) v m xs hs hown ⟨g, 0, none⟩ ar.length cap vs (by rw [hx, e]) (by rw [hr.len, Nat.mul_one]) (World.ownsRow.cells hr.outer (g := g) (by rw [e]; rfl)) hr.one (by unfold maxLen; omega) (by omega) hB ?_
    intro v' w' h1 h2 _
    exact h v' w' h1 h2

/-- 'append(v, e)', v a list of lists of edges of one's own. -/
theorem wpList_pushL17 {ops : Array Oper} {rest : List Oper} {o : Oper} {a : Act} {Q : Exit → Act → World → Prop} (hgd : o.guard = none) (s x : Operand)
    (ho : o.op = .call { callee := .builtin .append, args := #[s, x], argTypes := #[35, 35] }) (W : World) (B : Nat) (v : Value) (vs : List Value) (m : Nat) (xa : Option Addr) (xn xc : Nat) (hown : W.ownsRow B 23 1 v m vs)
    (hB : B ≤ W.heap.size) (hl : m ≤ 1000) (hs : a.eval s = v) (hx : a.eval x = .slice (some ⟨W.heap.size, 0, none⟩) 1 1)
    (h : ∀ v' w', w'.ownsRow B 23 1 v' (m + 1) (vs ++ [.slice xa xn xc]) → (W.alloc (.cells #[.slice xa xn xc] 23)).grownBy w' v.ownBlock → (v'.ownBlock = v.ownBlock ∨ v'.ownBlock = some (W.heap.size + 1)) → wpList Tryd.prog ops Q rest (a.put o.dst v') w') :
    wpList Tryd.prog ops Q (o :: rest) a (W.alloc (.cells #[.slice xa xn xc] 23)) := by
  obtain ⟨i1, hi1, hy0, hy1, hy2⟩ := info_parts Tryd.infoRowE17
  refine wpList_append_own_at _ hgd s x 35 ho B 23 i1 (.slice none 0 0) 1 24 Tryd.underlying35 hi1 hy0 hy1 hy2 rfl (by decide) _ _ _ hs (World.ownsRow.alloc hown _) ⟨W.heap.size, 0, none⟩ 1 1 [.slice xa xn xc] hx rfl (cell_one_new _ _ _) (by simp [Value.oneCell']) (by unfold maxLen; omega) (by omega) (by simp; omega) ?_
  intro v' w' hown' hg _ h5
  rw [World.size_alloc] at h5
  exact h v' w' hown' hg h5
namespace Cm
theorem take_vs {cs : List Ct} {k : Nat} {c : Ct} (h : cs[k]? = some c) : (cs.take (k + 1)).flatMap (fun c => c.vs) = (cs.take k).flatMap (fun c => c.vs) ++ c.vs := by
  rw [List.take_add_one, h]
  simp
theorem take_ev {cs : List Ct} {k : Nat} {c : Ct} (h : cs[k]? = some c) : (cs.take (k + 1)).map (fun c => c.ev) = (cs.take k).map (fun c => c.ev) ++ [c.ev] := by
  rw [List.take_add_one, h]
  simp
end Cm
end Go.Proofs.YtodlejemkihjnaaDoor
