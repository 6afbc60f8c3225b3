import Derived.Test.YtodlejemkihjnaaDoorMg11
import Derived.Lib.AppendStr
import Derived.Lib.ConvBytes
import Derived.Deep.AppendLies
import Derived.Test.YtodlejemkihjnaaDoorMg10
import Derived.Test.YtodlejemkihjnaaDoorMg04
import Derived.Laws.Externs
import Derived.Lib.UnsafeStr
import Derived.Lib.Builder
import Derived.Test.YtodlejemkihjnaaDoorMg00
import Derived.Shelf.LaysM
import Derived.Shelf.Strconv.AppendIntPublic10
import Derived.Test.YtodlejemkihjnaaDoorProg
/-
  Bytes of one's own, and what is appended to them.
-/
namespace Go.Proofs.YtodlejemkihjnaaDoor
open Go.RowKit

/-- v holds the bytes L, laid since block B. -/
def Ce.Bts (w : World) (B : Nat) (v : Value) (L : List UInt8) : Prop := w.ownsRow B 5 1 v L.length (Lib.byteCells L)
theorem Ce.Bts.nil (w : World) (B : Nat) : Ce.Bts w B (.slice none 0 0) [] := ⟨rfl, .inl ⟨rfl, rfl⟩⟩
theorem Ce.strCells_bts (L : List UInt8) : Lib.strCells ⟨L.toArray⟩ = Lib.byteCells L := by simp [Lib.strCells, Lib.byteCells]
theorem Ce.bts_app (L S : List UInt8) : Lib.byteCells L ++ Lib.byteCells S = Lib.byteCells (L ++ S) := by simp [Lib.byteCells]
theorem Ce.Bts.alloc {w : World} {B : Nat} {v : Value} {L : List UInt8} (h : Ce.Bts w B v L) (o : Obj) : Ce.Bts (w.alloc o) B v L := World.ownsRow.alloc h o

/-- 'append(b, s...)', s a string. -/
theorem wpList_text17 {ops : Array Oper} {rest : List Oper} {o : Oper} {a : Act} {Q : Exit → Act → World → Prop} (hgd : o.guard = none) (sl x : Operand)
    (ho : o.op = .call { callee := .builtin .append, args := #[sl, x], argTypes := #[26, 9] }) (w : World) (B : Nat) (v : Value) (L S : List UInt8) (hs : a.eval sl = v) (hx : a.eval x = .string ⟨S.toArray⟩) (hown : Ce.Bts w B v L)
    (hl : L.length + S.length ≤ 140737488355328) (hB : B ≤ w.heap.size)
    (h : ∀ v' w', Ce.Bts w' B v' (L ++ S) → w.grownBy w' v.ownBlock → wpList Tryd.prog ops Q rest (a.put o.dst v') w') : wpList Tryd.prog ops Q (o :: rest) a w := by
  obtain ⟨i0, hi, hz0, hz1, hz2⟩ := info_parts (show (Tryd.prog.info? 5).map (fun i => (i.zero, i.size, i.bytes)) = some (some (.int .u8 0), 1, 1) by kernel_rfl)
  have hsz : (⟨S.toArray⟩ : ByteArray).size = S.length := by simp [ByteArray.size]
  refine Lib.wpList_append_own_string (P := Tryd.prog) w hgd sl x 26 9 ho B 5 i0 Tryd.underlying26 Tryd.underlying9 hi hz0 hz1 hz2 v L.length _ hs hown ⟨S.toArray⟩ hx (by rw [hsz]; unfold maxLen; omega) (by rw [hsz]; exact hl) hB ?_
  intro v' w' h1 h2 _
  refine h v' w' ?_ h2
  unfold Ce.Bts
  rw [hsz, Ce.strCells_bts, Ce.bts_app] at h1
  rw [List.length_append]
  exact h1

/-- 'append(b, x)', 'append(b, x, y)'. -/
theorem wpList_bytes17 {ops : Array Oper} {rest : List Oper} {o : Oper} {a : Act} {Q : Exit → Act → World → Prop} (hgd : o.guard = none) (sl x : Operand)
    (ho : o.op = .call { callee := .builtin .append, args := #[sl, x], argTypes := #[26, 26] }) (W : World) (B : Nat) (v : Value) (L S : List UInt8) (hown : Ce.Bts W B v L) (hB : B ≤ W.heap.size)
    (hl : L.length + S.length ≤ 140737488355328) (hs : a.eval sl = v) (tmp : Obj) (htmp : tmp = .cells (Lib.byteCells S).toArray 5) (hx : a.eval x = .slice (some ⟨W.heap.size, 0, none⟩) S.length S.length)
    (h : ∀ v' w', Ce.Bts w' B v' (L ++ S) → (W.alloc tmp).grownBy w' v.ownBlock → wpList Tryd.prog ops Q rest (a.put o.dst v') w') : wpList Tryd.prog ops Q (o :: rest) a (W.alloc tmp) := by
  subst htmp
  obtain ⟨i0, hi, hz0, hz1, hz2⟩ := info_parts (show (Tryd.prog.info? 5).map (fun i => (i.zero, i.size, i.bytes)) = some (some (.int .u8 0), 1, 1) by kernel_rfl)
  have hbl : (Lib.byteCells S).length = S.length := by simp [Lib.byteCells]
  have hcells : ∀ (j : Nat) (u : Value), (Lib.byteCells S)[j]? = some u → (W.alloc (.cells (Lib.byteCells S).toArray 5)).cell? ((⟨W.heap.size, 0, none⟩ : Addr).add j) = some u := by
    intro j u hj
    exact World.news_of_block (heap_alloc_new W (.cells (Lib.byteCells S).toArray 5)) j u (by simpa using hj)
  have hall : ∀ u ∈ Lib.byteCells S, u.oneCell' = true := by
    intro u hu
    simp only [Lib.byteCells, List.mem_map] at hu
    obtain ⟨c, _, rfl⟩ := hu
    rfl
  refine wpList_append_own_at _ hgd sl x 26 ho B 5 i0 (.int .u8 0) 1 1 Tryd.underlying26 hi hz0 hz1 hz2 rfl (by decide) _ _ _ hs (World.ownsRow.alloc hown _) ⟨W.heap.size, 0, none⟩ S.length S.length (Lib.byteCells S) hx (by simpa using hbl) ?_ ?_ (by unfold maxLen; omega) (by omega) (by simp; omega) ?_
  · exact hcells
  · exact hall
  intro v' w' hown' hg _ _
  refine h v' w' ?_ hg
  unfold Ce.Bts
  rw [Ce.bts_app] at hown'
  rw [List.length_append]
  exact hown'
end Go.Proofs.YtodlejemkihjnaaDoor

/-
  The program's writer: a strings.Builder at the head of a struct.
-/
namespace Go.Proofs.YtodlejemkihjnaaDoor
open Go.RowKit

/-- Block b is a writer that has the text L; t: it is too long. -/
def Wrt (w : World) (B b : Nat) (p : Value) (L : List UInt8) (t : Bool) : Prop :=
  B ≤ b ∧ ∃ v, w.heap[b]? = some (.cells #[p, v, .bool t] 66 (0, 0)) ∧ Ce.Bts w B v L ∧ v.ownBlock ≠ some b
/-- Fresh or written. -/
def IsWrt (w : World) (B b : Nat) (L : List UInt8) (t : Bool) : Prop := Wrt w B b (.pointer none) L t ∨ Wrt w B b (.pointer (some ⟨b, 0, none⟩)) L t
section
variable {w w' : World} {B b : Nat} {p : Value} {L : List UInt8} {t : Bool}
theorem Wrt.lt (h : Wrt w B b p L t) : b < w.heap.size := by
  obtain ⟨_, v, hb, _⟩ := h
  exact lt_of_block hb
theorem Wrt.later (h : Wrt w B b p L t) (hb : Below w.heap.size w w') : Wrt w' B b p L t := by
  obtain ⟨h0, v, h1, h2, h3⟩ := h
  exact ⟨h0, v, (hb.block _ (lt_of_block h1)).trans h1, row_same h2 fun g _ _ h => hb.block g h, h3⟩
theorem Wrt.used (h : Wrt w B b p L t) (q : Value) : Wrt (w.setCell ⟨b, 0, none⟩ q) B b q L t := by
  obtain ⟨h0, v, h1, h2, h3⟩ := h
  refine ⟨h0, v, ?_, ?_, h3⟩
  · rw [heap_setCell_same w b 0 _ _ _ h1]; simp
  · exact row_same h2 fun g hg _ _ => heap_setCell_other _ ⟨b, 0, none⟩ g _ (by dsimp only; intro e; exact h3 (by rw [hg, e]))
theorem IsWrt.later (h : IsWrt w B b L t) (hb : Below w.heap.size w w') : IsWrt w' B b L t := h.imp (·.later hb) (·.later hb)
theorem IsWrt.some (h : IsWrt w B b L t) : ∃ p, Wrt w B b p L t := h.elim (fun h => ⟨_, h⟩) (fun h => ⟨_, h⟩)
theorem Wrt.cells (h : Wrt w B b p L t) : ∃ vo vc, w.cell? ⟨b, 0, none⟩ = Option.some p ∧ w.cell? ⟨b, 1, none⟩ = Option.some (.slice vo L.length vc) ∧ w.cell? ⟨b, 2, none⟩ = Option.some (.bool t) ∧ (∀ i, w.frozen? ⟨b, i, none⟩ = false) ∧ w.shape? b = Option.some (66, 3) := by
  obtain ⟨h0, v, h1, h2, h3⟩ := h
  have hv : ∃ vo vc, v = .slice vo L.length vc := by
    rcases h2.2 with ⟨rfl, h⟩ | ⟨g, cap, cur, rfl, -⟩
    · exact ⟨none, 0, by rw [h]⟩
    · exact ⟨_, _, rfl⟩
  obtain ⟨vo, vc, rfl⟩ := hv
  exact ⟨vo, vc, by simp [World.cell?, h1], by simp [World.cell?, h1], by simp [World.cell?, h1], fun i => by simp [World.frozen?, h1], by simp [World.shape?, h1]⟩
theorem Wrt.new (w : World) (hB : B ≤ w.heap.size) : IsWrt (w.alloc (.cells #[.pointer none, .slice none 0 0, .bool false] 66)) B w.heap.size [] false :=
  .inl ⟨hB, _, heap_alloc_new w _, Ce.Bts.nil _ _, by simp [Value.ownBlock]⟩
theorem Wrt.setLong (h : Wrt w B b p L t) : Wrt (w.setCell ⟨b, 2, none⟩ (.bool true)) B b p L true := by
  obtain ⟨h0, v, h1, h2, h3⟩ := h
  refine ⟨h0, v, ?_, ?_, h3⟩
  · rw [heap_setCell_same w b 2 _ _ _ h1]; simp
  · exact row_same h2 fun g hg _ _ => heap_setCell_other _ ⟨b, 2, none⟩ g _ (by dsimp only; intro e; exact h3 (by rw [hg, e]))
end

set_option maxHeartbeats 1000000 in
set_option maxRecDepth 100000 in
theorem copyCheck17_used (b : Nat) (w : World) (h0 : w.cell? ⟨b, 0, none⟩ = some (.pointer (some ⟨b, 0, none⟩))) :
    Calls Tryd.prog 33 #[.pointer (some ⟨b, 0, none⟩)] w fun e w' => e = .returned (.tuple #[]) ∧ w' = w := by
  obtain ⟨j, hj, _⟩ := Option.map_eq_some_iff.1 (show (Tryd.prog.info? 64).map (·.size) = some 2 by kernel_rfl)
  go_enter Tryd.func33, Tryd.ntmps33
  go_wp2
  rw [Lib.run_neq_ptr_same w _ Tryd.underlying62 hj]
  go_wp2
  go_end0
  exact ⟨rfl, rfl⟩
set_option maxHeartbeats 1000000 in
set_option maxRecDepth 100000 in
theorem copyCheck17_fresh (b : Nat) (w : World) (h0 : w.cell? ⟨b, 0, none⟩ = some (.pointer none)) (hsh : w.shape? b = some (66, 3)) (hfz : w.frozen? ⟨b, 0, none⟩ = false) :
    Calls Tryd.prog 33 #[.pointer (some ⟨b, 0, none⟩)] w fun e w' => e = .returned (.tuple #[]) ∧ w' = w.setCell ⟨b, 0, none⟩ (.pointer (some ⟨b, 0, none⟩)) := by
  obtain ⟨j, hj, hjs⟩ := Option.map_eq_some_iff.1 (show (Tryd.prog.info? 64).map (·.size) = some 2 by kernel_rfl)
  have hj0 : j.size ≠ 0 := by rw [hjs]; decide
  go_enter Tryd.func33, Tryd.ntmps33
  go_wp2
  rw [Lib.run_to_unsafe w ⟨b, 0, none⟩ Tryd.underlying62 Tryd.underlying92 hj hj0 hsh (Nat.zero_lt_succ 2)]
  simp only [Result.andThen]
  rw [Oper.upon_value]
  go_wp2
  rw [run_callFunc_extern Tryd.func38 (by kernel_rfl) (by kernel_rfl) (by kernel_rfl) (e := Extern.AbiNoEscape.same) (by kernel_rfl)]
  rw [Lib.run_noEscape]
  simp only [Result.andThen]
  rw [Oper.upon_value]
  go_wp2
  rw [Lib.run_from_unsafe w ⟨b, 0, none⟩ Tryd.underlying92 Tryd.underlying62 hj hsh (by kernel_rfl)]
  simp only [Result.andThen]
  rw [Oper.upon_value]
  go_wp2
  go_end0
  exact ⟨rfl, rfl⟩

theorem copyCheck17_any {w : World} {B b : Nat} {L : List UInt8} {t : Bool} (h : IsWrt w B b L t) :
    Calls Tryd.prog 33 #[.pointer (some ⟨b, 0, none⟩)] w fun e w' => e = .returned (.tuple #[]) ∧ Wrt w' B b (.pointer (some ⟨b, 0, none⟩)) L t ∧ Below B w w' := by
  rcases h with h | h
  · obtain ⟨vo, vc, c0, c1, c2, fz, hsh⟩ := h.cells
    refine (copyCheck17_fresh b w c0 hsh (fz 0)).mono ?_
    rintro e w' ⟨rfl, rfl⟩
    exact ⟨rfl, h.used _, (Below.refl B w).setCell (p := ⟨b, 0, none⟩) h.1 _⟩
  · obtain ⟨vo, vc, c0, c1, c2, fz, hsh⟩ := h.cells
    refine (copyCheck17_used b w c0).mono ?_
    rintro e w' ⟨rfl, rfl⟩
    exact ⟨rfl, h, Below.refl B _⟩

theorem wlen17_any {w : World} {B b : Nat} {L : List UInt8} {t : Bool} (h : IsWrt w B b L t) :
    Calls Tryd.prog 22 #[.pointer (some ⟨b, 0, none⟩)] w fun e w' => e = .returned (.int .i64 (L.length : Int)) ∧ w' = w := by
  obtain ⟨p, h⟩ := h.some
  obtain ⟨vo, vc, c0, c1, -, fz, hsh⟩ := h.cells
  clear h
  go_enter Tryd.func22, Tryd.ntmps22
  go_wp2
  go_ret
  exact ⟨rfl, rfl⟩

set_option maxHeartbeats 2000000 in
set_option maxRecDepth 100000 in
theorem wwrite17_any {w : World} {B b : Nat} {L S : List UInt8} {t : Bool} (h : IsWrt w B b L t) (hB : B ≤ w.heap.size) (hl : L.length + S.length ≤ 140737488355328) :
    Calls Tryd.prog 27 #[.pointer (some ⟨b, 0, none⟩), .string ⟨S.toArray⟩] w fun e w' => (∃ v, e = .returned v) ∧ IsWrt w' B b (L ++ S) t ∧ Below B w w' := by
  have HW := Nu.hid h
  clear h
  go_enter Tryd.func27, Tryd.ntmps27
  go_wp2_with (go_at_call 33; refine (copyCheck17_any HW.out).mono ?_; rintro e w1 ⟨rfl, h1, hb1⟩; refine Hid.out ?_)
  refine Nu.hid ?_
  obtain ⟨h0, v, hh, hbt, hne⟩ := h1
  obtain ⟨vo, vc, c0, c1, c2, fz, hsh⟩ := Wrt.cells ⟨h0, v, hh, hbt, hne⟩
  obtain rfl : v = .slice vo L.length vc := by
    have : w1.cell? ⟨b, 1, none⟩ = some v := by simp [World.cell?, hh]
    exact Option.some.inj (this.symm.trans c1)
  have hB1 : B ≤ w1.heap.size := Nat.le_trans hB hb1.size
  have HB1 := Nu.hid hb1
  have HNE := Nu.hid hne
  clear hsh hb1 hne
  go_wp2_with (at_builtin; refine wpList_text17 rfl _ _ rfl w1 B (.slice vo L.length vc) L S rfl rfl hbt hl hB1 ?_; refine Hid.out ?_)
  refine Nu.hid ?_
  intro v' w2 hbt2 hg2
  have hlow : ∀ x, (Value.slice vo L.length vc).ownBlock = some x → B ≤ x := fun x e => (World.ownsRow.lt hbt x e).1
  have hh2 := (hg2.block b (lt_of_block hh) (fun e => HNE.out e.symm)).trans hh
  have hv' : ∃ vo' vc', v' = .slice vo' (L ++ S).length vc' := by
    rcases hbt2.2 with ⟨rfl, h⟩ | ⟨g, cap, cur, rfl, -⟩
    · exact ⟨none, 0, by rw [h]⟩
    · exact ⟨_, _, rfl⟩
  obtain ⟨vo', vc', rfl⟩ := hv'
  obtain ⟨d0, d1, d2, df⟩ := three_cells17 hh2
  have hne2 : (Value.slice vo' (L ++ S).length vc').ownBlock ≠ some b := fun e => by
    rcases hbt2.2 with ⟨h, -⟩ | ⟨g, cap, cur, h, -, hg, -⟩
    · rw [h] at e
      cases e
    · rw [h] at e
      obtain rfl : g = b := by simpa [Value.ownBlock] using e
      rw [hh2] at hg
      have := congrArg (fun o => match o with | some (Obj.cells _ t _) => t | _ => 66) hg
      revert this
      dsimp only
      decide
  have HF := Nu.hid (show IsWrt (w2.setCell ⟨b, 1, none⟩ (.slice vo' (L ++ S).length vc')) B b (L ++ S) t from .inr ⟨h0, _, by rw [heap_setCell_same w2 b 1 _ _ _ hh2]; simp, row_same hbt2 fun g hg _ _ => heap_setCell_other _ ⟨b, 1, none⟩ g _ (by dsimp only; intro e; exact hne2 (by rw [hg, e])), hne2⟩)
  have HBF := Nu.hid (((HB1.out.grown hg2 hB1 hlow).setCell (p := ⟨b, 1, none⟩) h0 (.slice vo' (L ++ S).length vc')))
  clear hbt2 hg2 hlow hne2 hh hh2 hbt
  rw [List.length_append] at HF HBF
  go_wp2
  go_ret2
  exact ⟨⟨_, rfl⟩, HF.out, HBF.out⟩

set_option maxHeartbeats 2000000 in
set_option maxRecDepth 100000 in
theorem wstring17_any {w : World} {B b : Nat} {L : List UInt8} {t : Bool} (h : IsWrt w B b L t) (h0 : L ≠ []) :
    Calls Tryd.prog 23 #[.pointer (some ⟨b, 0, none⟩)] w fun e w' => e = .returned (.string ⟨L.toArray⟩) ∧ Below B w w' := by
  obtain ⟨p, hB, v, hbk, hown, hne⟩ := h.some
  have hl0 : L.length ≠ 0 := by simpa using h0
  obtain ⟨g, cap, cur, rfl, hbg, hg, hnc, hcm, hcs, htake⟩ : ∃ g cap cur, v = .slice (some ⟨g, 0, none⟩) L.length cap ∧ B ≤ g ∧ w.heap[g]? = some (.cells cur 5 (0, 0)) ∧ L.length ≤ cap ∧ cap ≤ maxLen ∧ cur.size = cap * 1 ∧ cur.toList.take (L.length * 1) = Lib.byteCells L := by
    rcases hown.2 with ⟨_, hz⟩ | ⟨g, cap, cur, hv, r⟩
    · exact absurd hz hl0
    · exact ⟨g, cap, cur, hv, r⟩
  have c1 : w.drew.cell? ⟨b, 1, none⟩ = some (.slice (some ⟨g, 0, none⟩) L.length cap) := by
    have : w.drew.heap[b]? = some (.cells #[p, .slice (some ⟨g, 0, none⟩) L.length cap, .bool t] 66 (0, 0)) := hbk
    simp [World.cell?, this]
  have hSD : (Builtin.unsafeSliceData_ #[26] 82 #[.slice (some ⟨g, 0, none⟩) L.length cap]).run Tryd.prog w.drew = .ok (.pointer (some ⟨g, 0, none⟩)) w.drew :=
    Lib.run_unsafeSliceData_row _ _ _ _ _ _ (by omega)
  have hUS : (Builtin.unsafeString_ #[82, 3] 9 #[.pointer (some ⟨g, 0, none⟩), .int .i64 L.length]).run Tryd.prog w.drew = .ok (.string ⟨L.toArray⟩) (w.drew.freeze ⟨g, 0, none⟩ L.length) := by
    refine Lib.run_unsafeString_row w.drew 82 3 9 5 Tryd.underlying82 (by kernel_rfl) g cur.size (by have hg' : w.drew.heap[g]? = some (.cells cur 5 (0, 0)) := hg; simp [World.shape?, hg']) L h0 (by omega) (by unfold maxLen at hcm; omega) ?_
    intro j x hx
    have := hown.cells (g := g) rfl j (.int .u8 x.toNat) (by simp [Lib.byteCells, hx])
    exact this
  clear h0 hown htake hcs hcm hnc hbk h hne
  go_enter Tryd.func23, Tryd.ntmps23
  go_wp2
  go_region
  all_goals (go_wp2; go_ret; exact ⟨rfl, Lib.below_freeze (Below.drew (Below.refl B w)) (p := ⟨g, 0, none⟩) hbg _⟩)
end Go.Proofs.YtodlejemkihjnaaDoor

/-
  What Print answers; what is still to be written of a line.
-/
namespace Go.Proofs.YtodlejemkihjnaaDoor
open Go.RowKit

namespace Ce
theorem drop_at {A : Type} {l : List A} {k : Nat} {x : A} (h : l[k]? = some x) : l.drop k = x :: l.drop (k + 1) := by
  obtain ⟨hk, e⟩ := List.getElem?_eq_some_iff.1 h
  rw [List.drop_eq_getElem_cons hk, e]
end Ce
namespace Ce
/-- The numbers of a list behind another, a blank ahead of each. -/
def jt (l : List Int) : List UInt8 := l.flatMap fun x => 32 :: dg x
theorem jn_jt (x : Int) : ∀ r, jn (x :: r) = dg x ++ jt r
  | [] => by simp [jn, jt]
  | y :: r => by
    have ih := jn_jt y r
    have e : jn (x :: y :: r) = dg x ++ 32 :: jn (y :: r) := rfl
    rw [e, ih]
    simp [jt]
/-- What is still to be written of a line. -/
def rem (l : List Int) (j : Nat) : List UInt8 := if j = 0 then jn l else jt (l.drop j)
theorem rem_first {l : List Int} {x : Int} (h : l[0]? = some x) : rem l 0 = dg x ++ rem l 1 := by
  cases l with
  | nil => cases h
  | cons y r =>
    cases h
    unfold rem
    rw [if_pos rfl, jn_jt, if_neg (by omega)]
    rfl
theorem rem_next {l : List Int} {x : Int} {j : Nat} (hj : 0 < j) (h : l[j]? = some x) : rem l j = 32 :: (dg x ++ rem l (j + 1)) := by
  unfold rem
  rw [if_neg (by omega), if_neg (by omega), drop_at h]
  simp [jt]
theorem rem_end (l : List Int) : rem l l.length = [] := by
  unfold rem
  split
  · rename_i h
    rw [List.length_eq_zero_iff.1 h]
    rfl
  · simp [jt]
end Ce
/-- What Print answers. -/
def Prt (T : List UInt8) (e : Ending) : Prop := (33554432 < T.length ∧ e = .returned (.tuple #[.string ⟨#[]⟩, .int .i64 10])) ∨ (T.length ≤ 33554432 ∧ e = .returned (.tuple #[.string ⟨T.toArray⟩, .int .i64 0]))

/-- A certificate that can be read. -/
structure Ce.Sees (w : World) (v : Value) (c : Ce.Cert) (ao eo : Option Addr) (ca ce : Nat) : Prop where
  val : v = .agg #[.bool c.pl, .slice ao c.ar.length ca, .slice eo c.es.length ce]
  ar : Ce.ListsAt w ao c.ar
  es : EdgesAt w eo c.es
theorem Ce.Sees.later {w w' : World} {v : Value} {c : Ce.Cert} {ao eo : Option Addr} {ca ce : Nat} (h : Ce.Sees w v c ao eo ca ce) (hb : Below w.heap.size w w') : Ce.Sees w' v c ao eo ca ce := ⟨h.val, h.ar.later hb, h.es.later hb⟩
/-- No list of it is longer than a list may be. -/
structure Ce.Fits (c : Ce.Cert) : Prop where
  ar : c.ar.length ≤ 4611686018427387904
  es : c.es.length ≤ 4611686018427387904
  row : ∀ l ∈ c.ar, l.length ≤ 4611686018427387904
  txt : Ce.good c → (Ce.textB c).length ≤ 70368744177664
/-- What Print answers. -/
def PrintP (c : Ce.Cert) (e : Ending) : Prop := (¬ Ce.good c → e = .returned (.tuple #[.string ⟨#[]⟩, .int .i64 170])) ∧ (Ce.good c → Prt (Ce.textB c) e)

end Go.Proofs.YtodlejemkihjnaaDoor

/-
  The scanner in memory: the words by which the walks say where its text and its place lie, and their small laws.
-/
namespace Go.Proofs.YtodlejemkihjnaaDoor
open Go.RowKit

/-- Block b is a scanner over the slice ao, n, cap, and stands at p. -/
def Scn (w : World) (b : Nat) (ao : Option Addr) (n cap p : Nat) : Prop :=
  w.heap[b]? = some (.cells #[.slice ao n cap, .int .i64 p] 121 (0, 0))

/-- The place of the scanner b, as a number. -/
def posOf (w : World) (b : Nat) : Nat := match w.cell? ⟨b, 1, none⟩ with
  | some (.int _ x) => x.toNat
  | _ => 0

section
variable {w w' : World} {b : Nat} {ao : Option Addr} {n cap p : Nat} {g : Nat → Int}

theorem Scn.lt (h : Scn w b ao n cap p) : b < w.heap.size := lt_of_block h
theorem Scn.text (h : Scn w b ao n cap p) : w.cell? ⟨b, 0, none⟩ = some (.slice ao n cap) := by unfold Scn at h; simp [World.cell?, h]
theorem Scn.place (h : Scn w b ao n cap p) : w.cell? ⟨b, 1, none⟩ = some (.int .i64 p) := by unfold Scn at h; simp [World.cell?, h]
theorem Scn.free (h : Scn w b ao n cap p) (i : Nat) : w.frozen? ⟨b, i, none⟩ = false := by unfold Scn at h; simp [World.frozen?, h]
theorem Scn.pos (h : Scn w b ao n cap p) : posOf w b = p := by simp [posOf, h.place]
theorem Scn.set (h : Scn w b ao n cap p) (q : Nat) : Scn (w.setCell ⟨b, 1, none⟩ (.int .i64 q)) b ao n cap q := by
  unfold Scn at h ⊢
  rw [heap_setCell_same w b 1 _ _ _ h]
  simp
theorem Scn.alloc (h : Scn w b ao n cap p) (o : Obj) : Scn (w.alloc o) b ao n cap p := (Below.heap_alloc w o b h.lt).trans h
theorem Scn.kept {r : Option Nat} (h : Scn w b ao n cap p) (hg : w.grownBy w' r) (hr : some b ≠ r) : Scn w' b ao n cap p := (hg.block b h.lt hr).trans h
theorem Scn.drew (h : Scn w b ao n cap p) : Scn w.drew b ao n cap p := h
theorem Scn.drewN (h : Scn w b ao n cap p) (k : Nat) : Scn (w.drewN k) b ao n cap p := h

theorem Scn.put4 (h : Scn w b ao n cap p) {B : Nat} (hB : b ≠ B) (x0 x1 x2 x3 : Value) : Scn (put4 w B x0 x1 x2 x3) b ao n cap p := (put4_other hB x0 x1 x2 x3).trans h
end

end Go.Proofs.YtodlejemkihjnaaDoor

/-
  Functions of the library, by their contracts, laid at this program.
-/
namespace Go.Proofs
open Go.Shelf
def Tryd.laysM176_ren : Go.Shelf.Ren := ⟨fun | 176 => 34 | 249 => 39 | 288 => 42 | 283 => 44 | 284 => 45 | 285 => 46 | 286 => 47 | 129 => 52 | 317 => 51 | 318 => 53 | 319 => 54 | 320 => 55 | 337 => 57 | 338 => 58 | n => n, fun | 37 => 26 | 2 => 2 | 3 => 3 | 53 => 95 | 4 => 4 | 9 => 9 | 171 => 104 | 0 => 0 | 173 => 107 | 212 => 114 | 51 => 115 | 5 => 5 | 20 => 20 | 213 => 116 | 46 => 118 | 232 => 126 | 233 => 127 | n => n, fun | 17 => 0 | 18 => 1 | 19 => 2 | n => n⟩
theorem Tryd.laysM176 : Go.Proofs.LaysM.n176 Tryd.prog Tryd.laysM176_ren := {
  mixed := by kernel_rfl
  f129 := Tryd.func52.trans (congrArg some (by kernel_rfl))
  f176 := Tryd.func34.trans (congrArg some (by kernel_rfl))
  f249 := Tryd.func39.trans (congrArg some (by kernel_rfl))
  f283 := Tryd.func44.trans (congrArg some (by kernel_rfl))
  f284 := Tryd.func45.trans (congrArg some (by kernel_rfl))
  f285 := Tryd.func46.trans (congrArg some (by kernel_rfl))
  f286 := Tryd.func47.trans (congrArg some (by kernel_rfl))
  f288 := Tryd.func42.trans (congrArg some (by kernel_rfl))
  f317 := Tryd.func51.trans (congrArg some (by kernel_rfl))
  f318 := Tryd.func53.trans (congrArg some (by kernel_rfl))
  f319 := Tryd.func54.trans (congrArg some (by kernel_rfl))
  f320 := Tryd.func55.trans (congrArg some (by kernel_rfl))
  f337 := Tryd.func57.trans (congrArg some (by kernel_rfl))
  f338 := Tryd.func58.trans (congrArg some (by kernel_rfl))
  t0 := Tryd.underlying0
  a0 := Tryd.isAgg0
  z0 := Tryd.sizeOf0
  v0 := Tryd.zeroValue0
  t2 := Tryd.underlying2
  a2 := Tryd.isAgg2
  z2 := Tryd.sizeOf2
  v2 := Tryd.zeroValue2
  t3 := Tryd.underlying3
  a3 := Tryd.isAgg3
  z3 := Tryd.sizeOf3
  v3 := Tryd.zeroValue3
  t4 := Tryd.underlying4
  a4 := Tryd.isAgg4
  z4 := Tryd.sizeOf4
  v4 := Tryd.zeroValue4
  t5 := Tryd.underlying5
  a5 := Tryd.isAgg5
  z5 := Tryd.sizeOf5
  v5 := Tryd.zeroValue5
  t9 := Tryd.underlying9
  a9 := Tryd.isAgg9
  z9 := Tryd.sizeOf9
  v9 := Tryd.zeroValue9
  t20 := Tryd.underlying20
  a20 := Tryd.isAgg20
  z20 := Tryd.sizeOf20
  v20 := Tryd.zeroValue20
  t37 := Tryd.underlying26
  a37 := Tryd.isAgg26
  z37 := Tryd.sizeOf26
  v37 := Tryd.zeroValue26
  t46 := Tryd.underlying118
  a46 := Tryd.isAgg118
  z46 := Tryd.sizeOf118
  v46 := Tryd.zeroValue118
  t51 := Tryd.underlying115
  a51 := Tryd.isAgg115
  z51 := Tryd.sizeOf115
  v51 := Tryd.zeroValue115
  t53 := Tryd.underlying95
  a53 := Tryd.isAgg95
  z53 := Tryd.sizeOf95
  v53 := Tryd.zeroValue95
  t171 := Tryd.underlying104
  a171 := Tryd.isAgg104
  z171 := Tryd.sizeOf104
  v171 := Tryd.zeroValue104
  t173 := Tryd.underlying107
  a173 := Tryd.isAgg107
  z173 := Tryd.sizeOf107
  v173 := Tryd.zeroValue107
  t212 := Tryd.underlying114
  a212 := Tryd.isAgg114
  z212 := Tryd.sizeOf114
  v212 := Tryd.zeroValue114
  t213 := Tryd.underlying116
  a213 := Tryd.isAgg116
  z213 := Tryd.sizeOf116
  t232 := Tryd.underlying126
  a232 := Tryd.isAgg126
  z232 := Tryd.sizeOf126
  v232 := Tryd.zeroValue126
  t233 := Tryd.underlying127
  a233 := Tryd.isAgg127
  z233 := Tryd.sizeOf127
  v233 := Tryd.zeroValue127
  g17 := by kernel_rfl
  g18 := by kernel_rfl
  g19 := by kernel_rfl
  i0 := by kernel_rfl
  i2 := by kernel_rfl
  i3 := by kernel_rfl
  i4 := by kernel_rfl
  i5 := by kernel_rfl
  i9 := by kernel_rfl
  i20 := by kernel_rfl
  i37 := by kernel_rfl
  i46 := by kernel_rfl
  i51 := by kernel_rfl
  i53 := by kernel_rfl
  i171 := by kernel_rfl
  i173 := by kernel_rfl
  i212 := by kernel_rfl
  i232 := by kernel_rfl
  i233 := by kernel_rfl
  m17 := by kernel_rfl
  m18 := by kernel_rfl
  m19 := by kernel_rfl }
theorem Tryd.strconv_AppendInt (B n : Nat) (i : Int) (h0 : -9223372036854775808 ≤ i) (h1 : i ≤ 9223372036854775807) (sv : Value) (xs : List Value) (w : World) (hown : w.ownsRow B 5 1 sv n xs) (hBw : B ≤ w.heap.size) (hlim : n + 21 ≤ 140737488355328)
    (htab : Lib.TabBelow Tryd.prog B w "internal/strconv.uint64pow10" .u64 Lib.pow10Tab) :
    Calls Tryd.prog 34 #[sv, .int .i64 i, .int .i64 10] w fun e w' => ∃ v', e = .returned v' ∧ w'.ownsRow B 5 1 v' (n + (Lib.itoa i).length) (xs ++ Lib.byteCells (Lib.itoa i)) ∧ RowKit.Below B w w' ∧ Lib.OthersKept 5 none w w' := Any.strconv_AppendInt_10 Tryd.laysM176 B n i h0 h1 sv xs w hown hBw hlim htab
end Go.Proofs
