import Derived.Test.YtfjgmbimapkabaaDoorMg15
import Derived.Lib.AppendStr
import Derived.Lib.ConvBytes
import Derived.Laws.Externs
import Derived.Lib.UnsafeStr
import Derived.Lib.Builder
import Derived.Lib.ItoaLen
import Derived.Laws.IdiomStrings
/-
  Bytes of one's own, and what is appended to them.
-/
namespace Go.Proofs.YtfjgmbimapkabaaDoor
open Go.RowKit

/-- v holds the bytes L, laid since block B. -/
def Ce.Bts (w : World) (B : Nat) (v : Value) (L : List UInt8) : Prop := w.ownsRow B 5 1 v L.length (Lib.byteCells L)
theorem Ce.Bts.nil (w : World) (B : Nat) : Ce.Bts w B (.slice none 0 0) [] := ⟨rfl, .inl ⟨rfl, rfl⟩⟩
theorem Ce.strCells_bts (L : List UInt8) : Lib.strCells ⟨L.toArray⟩ = Lib.byteCells L := by simp [Lib.strCells, Lib.byteCells]
theorem Ce.bts_app (L S : List UInt8) : Lib.byteCells L ++ Lib.byteCells S = Lib.byteCells (L ++ S) := by simp [Lib.byteCells]
theorem Ce.Bts.alloc {w : World} {B : Nat} {v : Value} {L : List UInt8} (h : Ce.Bts w B v L) (o : Obj) : Ce.Bts (w.alloc o) B v L := World.ownsRow.alloc h o

/-- 'append(b, s...)', s a string. -/
theorem wpList_text17 {ops : Array Oper} {rest : List Oper} {o : Oper} {a : Act} {Q : Exit → Act → World → Prop} (hgd : o.guard = none) (sl x : Operand)
    (ho : o.op = .call { callee := .builtin .append, args := #[sl, x], argTypes := #[31, 9] }) (w : World) (B : Nat) (v : Value) (L S : List UInt8) (hs : a.eval sl = v) (hx : a.eval x = .string ⟨S.toArray⟩) (hown : Ce.Bts w B v L)
    (hl : L.length + S.length ≤ 140737488355328) (hB : B ≤ w.heap.size)
    (h : ∀ v' w', Ce.Bts w' B v' (L ++ S) → w.grownBy w' v.ownBlock → wpList Tryd.prog ops Q rest (a.put o.dst v') w') : wpList Tryd.prog ops Q (o :: rest) a w := by
  obtain ⟨i0, hi, hz0, hz1, hz2⟩ := info_parts (show (Tryd.prog.info? 5).map (fun i => (i.zero, i.size, i.bytes)) = some (some (.int .u8 0), 1, 1) by kernel_rfl)
  have hsz : (⟨S.toArray⟩ : ByteArray).size = S.length := by simp [ByteArray.size]
  refine Lib.wpList_append_own_string (P := Tryd.prog) w hgd sl x 31 9 ho B 5 i0 Tryd.underlying31 Tryd.underlying9 hi hz0 hz1 hz2 v L.length _ hs hown ⟨S.toArray⟩ hx (by rw [hsz]; unfold maxLen; omega) (by rw [hsz]; exact hl) hB ?_
  intro v' w' h1 h2 _
  refine h v' w' ?_ h2
  unfold Ce.Bts
  rw [hsz, Ce.strCells_bts, Ce.bts_app] at h1
  rw [List.length_append]
  exact h1

/-- 'append(b, x)', 'append(b, x, y)'. -/
theorem wpList_bytes17 {ops : Array Oper} {rest : List Oper} {o : Oper} {a : Act} {Q : Exit → Act → World → Prop} (hgd : o.guard = none) (sl x : Operand)
    (ho : o.op = .call { callee := .builtin .append, args := #[sl, x], argTypes := #[31, 31] }) (W : World) (B : Nat) (v : Value) (L S : List UInt8) (hown : Ce.Bts W B v L) (hB : B ≤ W.heap.size)
    (hl : L.length + S.length ≤ 140737488355328) (hs : a.eval sl = v) (tmp : Obj) (htmp : tmp = .cells (Lib.byteCells S).toArray 5) (hx : a.eval x = .slice (some ⟨W.heap.size, 0, none⟩) S.length S.length)
    (h : ∀ v' w', Ce.Bts w' B v' (L ++ S) → (W.alloc tmp).grownBy w' v.ownBlock → wpList Tryd.prog ops Q rest (a.put o.dst v') w') : wpList Tryd.prog ops Q (o :: rest) a (W.alloc tmp) := by
  subst htmp
  obtain ⟨i0, hi, hz0, hz1, hz2⟩ := info_parts (show (Tryd.prog.info? 5).map (fun i => (i.zero, i.size, i.bytes)) = some (some (.int .u8 0), 1, 1) by kernel_rfl)
  have hbl : (Lib.byteCells S).length = S.length := by simp [Lib.byteCells]
  have hcells : ∀ (j : Nat) (u : Value), (Lib.byteCells S)[j]? = some u → (W.alloc (.cells (Lib.byteCells S).toArray 5)).cell? ((⟨W.heap.size, 0, none⟩ : Addr).add j) = some u := by
    intro j u hj
    exact World.news_of_block (heap_alloc_new W (.cells (Lib.byteCells S).toArray 5)) j u (by simpa using hj)
  have hall : ∀ u ∈ Lib.byteCells S, u.oneCell' = true := by
    intro u hu
    simp only [Lib.byteCells, List.mem_map] at hu
    obtain ⟨c, _, rfl⟩ := hu
    rfl
  refine wpList_append_own_at _ hgd sl x 31 ho B 5 i0 (.int .u8 0) 1 1 Tryd.underlying31 hi hz0 hz1 hz2 rfl (by decide) _ _ _ hs (World.ownsRow.alloc hown _) ⟨W.heap.size, 0, none⟩ S.length S.length (Lib.byteCells S) hx (by simpa using hbl) ?_ ?_ (by unfold maxLen; omega) (by omega) (by simp; omega) ?_
  · exact hcells
  · exact hall
  intro v' w' hown' hg _ _
  refine h v' w' ?_ hg
  unfold Ce.Bts
  rw [Ce.bts_app] at hown'
  rw [List.length_append]
  exact hown'
end Go.Proofs.YtfjgmbimapkabaaDoor
/-
  The program's writer: a strings.Builder at the head of a struct.
-/
namespace Go.Proofs.YtfjgmbimapkabaaDoor
open Go.RowKit

/-- Block b is a writer that has the text L; t: it is too long. -/
def Wrt (w : World) (B b : Nat) (p : Value) (L : List UInt8) (t : Bool) : Prop :=
  B ≤ b ∧ ∃ v, w.heap[b]? = some (.cells #[p, v, .bool t] 77 (0, 0)) ∧ Ce.Bts w B v L ∧ v.ownBlock ≠ some b
/-- Fresh or written. -/
def IsWrt (w : World) (B b : Nat) (L : List UInt8) (t : Bool) : Prop := Wrt w B b (.pointer none) L t ∨ Wrt w B b (.pointer (some ⟨b, 0, none⟩)) L t
section
variable {w w' : World} {B b : Nat} {p : Value} {L : List UInt8} {t : Bool}
theorem Wrt.lt (h : Wrt w B b p L t) : b < w.heap.size := by
  obtain ⟨_, v, hb, _⟩ := h
  exact lt_of_block hb
theorem Wrt.later (h : Wrt w B b p L t) (hb : Below w.heap.size w w') : Wrt w' B b p L t := by
  obtain ⟨h0, v, h1, h2, h3⟩ := h
  exact ⟨h0, v, (hb.block _ (lt_of_block h1)).trans h1, row_same h2 fun g _ _ h => hb.block g h, h3⟩
theorem Wrt.used (h : Wrt w B b p L t) (q : Value) : Wrt (w.setCell ⟨b, 0, none⟩ q) B b q L t := by
  obtain ⟨h0, v, h1, h2, h3⟩ := h
  refine ⟨h0, v, ?_, ?_, h3⟩
  · rw [heap_setCell_same w b 0 _ _ _ h1]; simp
  · exact row_same h2 fun g hg _ _ => heap_setCell_other _ ⟨b, 0, none⟩ g _ (by dsimp only; intro e; exact h3 (by rw [hg, e]))
theorem IsWrt.later (h : IsWrt w B b L t) (hb : Below w.heap.size w w') : IsWrt w' B b L t := h.imp (·.later hb) (·.later hb)
theorem IsWrt.some (h : IsWrt w B b L t) : ∃ p, Wrt w B b p L t := h.elim (fun h => ⟨_, h⟩) (fun h => ⟨_, h⟩)
theorem Wrt.cells (h : Wrt w B b p L t) : ∃ vo vc, w.cell? ⟨b, 0, none⟩ = Option.some p ∧ w.cell? ⟨b, 1, none⟩ = Option.some (.slice vo L.length vc) ∧ w.cell? ⟨b, 2, none⟩ = Option.some (.bool t) ∧ (∀ i, w.frozen? ⟨b, i, none⟩ = false) ∧ w.shape? b = Option.some (77, 3) := by
  obtain ⟨h0, v, h1, h2, h3⟩ := h
  have hv : ∃ vo vc, v = .slice vo L.length vc := by
    rcases h2.2 with ⟨rfl, h⟩ | ⟨g, cap, cur, rfl, -⟩
    · exact ⟨none, 0, by rw [h]⟩
    · exact ⟨_, _, rfl⟩
  obtain ⟨vo, vc, rfl⟩ := hv
  exact ⟨vo, vc, by simp [World.cell?, h1], by simp [World.cell?, h1], by simp [World.cell?, h1], fun i => by simp [World.frozen?, h1], by simp [World.shape?, h1]⟩
theorem Wrt.new (w : World) (hB : B ≤ w.heap.size) : IsWrt (w.alloc (.cells #[.pointer none, .slice none 0 0, .bool false] 77)) B w.heap.size [] false :=
  .inl ⟨hB, _, heap_alloc_new w _, Ce.Bts.nil _ _, by simp [Value.ownBlock]⟩
theorem Wrt.setLong (h : Wrt w B b p L t) : Wrt (w.setCell ⟨b, 2, none⟩ (.bool true)) B b p L true := by
  obtain ⟨h0, v, h1, h2, h3⟩ := h
  refine ⟨h0, v, ?_, ?_, h3⟩
  · rw [heap_setCell_same w b 2 _ _ _ h1]; simp
  · exact row_same h2 fun g hg _ _ => heap_setCell_other _ ⟨b, 2, none⟩ g _ (by dsimp only; intro e; exact h3 (by rw [hg, e]))
end

set_option maxHeartbeats 1000000 in
set_option maxRecDepth 100000 in
theorem copyCheck17_used (b : Nat) (w : World) (h0 : w.cell? ⟨b, 0, none⟩ = some (.pointer (some ⟨b, 0, none⟩))) :
    Calls Tryd.prog 45 #[.pointer (some ⟨b, 0, none⟩)] w fun e w' => e = .returned (.tuple #[]) ∧ w' = w := by
  obtain ⟨j, hj, _⟩ := Option.map_eq_some_iff.1 (show (Tryd.prog.info? 75).map (·.size) = some 2 by kernel_rfl)
  go_enter Tryd.func45, Tryd.ntmps45
  go_wp2
  rw [Lib.run_neq_ptr_same w _ Tryd.underlying73 hj]
  go_wp2
  go_end0
  exact ⟨rfl, rfl⟩
set_option maxHeartbeats 1000000 in
set_option maxRecDepth 100000 in
theorem copyCheck17_fresh (b : Nat) (w : World) (h0 : w.cell? ⟨b, 0, none⟩ = some (.pointer none)) (hsh : w.shape? b = some (77, 3)) (hfz : w.frozen? ⟨b, 0, none⟩ = false) :
    Calls Tryd.prog 45 #[.pointer (some ⟨b, 0, none⟩)] w fun e w' => e = .returned (.tuple #[]) ∧ w' = w.setCell ⟨b, 0, none⟩ (.pointer (some ⟨b, 0, none⟩)) := by
  obtain ⟨j, hj, hjs⟩ := Option.map_eq_some_iff.1 (show (Tryd.prog.info? 75).map (·.size) = some 2 by kernel_rfl)
  have hj0 : j.size ≠ 0 := by rw [hjs]; decide
  go_enter Tryd.func45, Tryd.ntmps45
  go_wp2
  rw [Lib.run_to_unsafe w ⟨b, 0, none⟩ Tryd.underlying73 Tryd.underlying101 hj hj0 hsh (Nat.zero_lt_succ 2)]
  simp only [Result.andThen]
  rw [Oper.upon_value]
  go_wp2
  rw [run_callFunc_extern Tryd.func49 (by kernel_rfl) (by kernel_rfl) (by kernel_rfl) (e := Extern.AbiNoEscape.same) (by kernel_rfl)]
  rw [Lib.run_noEscape]
  simp only [Result.andThen]
  rw [Oper.upon_value]
  go_wp2
  rw [Lib.run_from_unsafe w ⟨b, 0, none⟩ Tryd.underlying101 Tryd.underlying73 hj hsh (by kernel_rfl)]
  simp only [Result.andThen]
  rw [Oper.upon_value]
  go_wp2
  go_end0
  exact ⟨rfl, rfl⟩

theorem copyCheck17_any {w : World} {B b : Nat} {L : List UInt8} {t : Bool} (h : IsWrt w B b L t) :
    Calls Tryd.prog 45 #[.pointer (some ⟨b, 0, none⟩)] w fun e w' => e = .returned (.tuple #[]) ∧ Wrt w' B b (.pointer (some ⟨b, 0, none⟩)) L t ∧ Below B w w' := by
  rcases h with h | h
  · obtain ⟨vo, vc, c0, c1, c2, fz, hsh⟩ := h.cells
    refine (copyCheck17_fresh b w c0 hsh (fz 0)).mono ?_
    rintro e w' ⟨rfl, rfl⟩
    exact ⟨rfl, h.used _, (Below.refl B w).setCell (p := ⟨b, 0, none⟩) h.1 _⟩
  · obtain ⟨vo, vc, c0, c1, c2, fz, hsh⟩ := h.cells
    refine (copyCheck17_used b w c0).mono ?_
    rintro e w' ⟨rfl, rfl⟩
    exact ⟨rfl, h, Below.refl B _⟩

theorem wlen17_any {w : World} {B b : Nat} {L : List UInt8} {t : Bool} (h : IsWrt w B b L t) :
    Calls Tryd.prog 32 #[.pointer (some ⟨b, 0, none⟩)] w fun e w' => e = .returned (.int .i64 (L.length : Int)) ∧ w' = w := by
  obtain ⟨p, h⟩ := h.some
  obtain ⟨vo, vc, c0, c1, -, fz, hsh⟩ := h.cells
  clear h
  go_enter Tryd.func32, Tryd.ntmps32
  go_wp2
  go_ret
  exact ⟨rfl, rfl⟩

set_option maxHeartbeats 2000000 in
set_option maxRecDepth 100000 in
theorem wwrite17_any {w : World} {B b : Nat} {L S : List UInt8} {t : Bool} (h : IsWrt w B b L t) (hB : B ≤ w.heap.size) (hl : L.length + S.length ≤ 140737488355328) :
    Calls Tryd.prog 40 #[.pointer (some ⟨b, 0, none⟩), .string ⟨S.toArray⟩] w fun e w' => (∃ v, e = .returned v) ∧ IsWrt w' B b (L ++ S) t ∧ Below B w w' := by
  have HW := Nu.hid h
  clear h
  go_enter Tryd.func40, Tryd.ntmps40
  go_wp2_with (go_at_call 45; refine (copyCheck17_any HW.out).mono ?_; rintro e w1 ⟨rfl, h1, hb1⟩; refine Hid.out ?_)
  refine Nu.hid ?_
  obtain ⟨h0, v, hh, hbt, hne⟩ := h1
  obtain ⟨vo, vc, c0, c1, c2, fz, hsh⟩ := Wrt.cells ⟨h0, v, hh, hbt, hne⟩
  obtain rfl : v = .slice vo L.length vc := by
    have : w1.cell? ⟨b, 1, none⟩ = some v := by simp [World.cell?, hh]
    exact Option.some.inj (this.symm.trans c1)
  have hB1 : B ≤ w1.heap.size := Nat.le_trans hB hb1.size
  have HB1 := Nu.hid hb1
  have HNE := Nu.hid hne
  clear hsh hb1 hne
  go_wp2_with (at_builtin; refine wpList_text17 rfl _ _ rfl w1 B (.slice vo L.length vc) L S rfl rfl hbt hl hB1 ?_; refine Hid.out ?_)
  refine Nu.hid ?_
  intro v' w2 hbt2 hg2
  have hlow : ∀ x, (Value.slice vo L.length vc).ownBlock = some x → B ≤ x := fun x e => (World.ownsRow.lt hbt x e).1
  have hh2 := (hg2.block b (lt_of_block hh) (fun e => HNE.out e.symm)).trans hh
  have hv' : ∃ vo' vc', v' = .slice vo' (L ++ S).length vc' := by
    rcases hbt2.2 with ⟨rfl, h⟩ | ⟨g, cap, cur, rfl, -⟩
    · exact ⟨none, 0, by rw [h]⟩
    · exact ⟨_, _, rfl⟩
  obtain ⟨vo', vc', rfl⟩ := hv'
  obtain ⟨d0, d1, d2, df⟩ := three_cells17 hh2
  have hne2 : (Value.slice vo' (L ++ S).length vc').ownBlock ≠ some b := fun e => by
    rcases hbt2.2 with ⟨h, -⟩ | ⟨g, cap, cur, h, -, hg, -⟩
    · rw [h] at e
      cases e
    · rw [h] at e
      obtain rfl : g = b := by simpa [Value.ownBlock] using e
      rw [hh2] at hg
      have := congrArg (fun o => match o with | some (Obj.cells _ t _) => t | _ => 77) hg
      revert this
      dsimp only
      decide
  have HF := Nu.hid (show IsWrt (w2.setCell ⟨b, 1, none⟩ (.slice vo' (L ++ S).length vc')) B b (L ++ S) t from .inr ⟨h0, _, by rw [heap_setCell_same w2 b 1 _ _ _ hh2]; simp, row_same hbt2 fun g hg _ _ => heap_setCell_other _ ⟨b, 1, none⟩ g _ (by dsimp only; intro e; exact hne2 (by rw [hg, e])), hne2⟩)
  have HBF := Nu.hid (((HB1.out.grown hg2 hB1 hlow).setCell (p := ⟨b, 1, none⟩) h0 (.slice vo' (L ++ S).length vc')))
  clear hbt2 hg2 hlow hne2 hh hh2 hbt
  rw [List.length_append] at HF HBF
  go_wp2
  go_ret2
  exact ⟨⟨_, rfl⟩, HF.out, HBF.out⟩

set_option maxHeartbeats 2000000 in
set_option maxRecDepth 100000 in
theorem wstring17_any {w : World} {B b : Nat} {L : List UInt8} {t : Bool} (h : IsWrt w B b L t) (h0 : L ≠ []) :
    Calls Tryd.prog 33 #[.pointer (some ⟨b, 0, none⟩)] w fun e w' => e = .returned (.string ⟨L.toArray⟩) ∧ Below B w w' := by
  obtain ⟨p, hB, v, hbk, hown, hne⟩ := h.some
  have hl0 : L.length ≠ 0 := by simpa using h0
  obtain ⟨g, cap, cur, rfl, hbg, hg, hnc, hcm, hcs, htake⟩ : ∃ g cap cur, v = .slice (some ⟨g, 0, none⟩) L.length cap ∧ B ≤ g ∧ w.heap[g]? = some (.cells cur 5 (0, 0)) ∧ L.length ≤ cap ∧ cap ≤ maxLen ∧ cur.size = cap * 1 ∧ cur.toList.take (L.length * 1) = Lib.byteCells L := by
    rcases hown.2 with ⟨_, hz⟩ | ⟨g, cap, cur, hv, r⟩
    · exact absurd hz hl0
    · exact ⟨g, cap, cur, hv, r⟩
  have c1 : w.drew.cell? ⟨b, 1, none⟩ = some (.slice (some ⟨g, 0, none⟩) L.length cap) := by
    have : w.drew.heap[b]? = some (.cells #[p, .slice (some ⟨g, 0, none⟩) L.length cap, .bool t] 77 (0, 0)) := hbk
    simp [World.cell?, this]
  have hSD : (Builtin.unsafeSliceData_ #[31] 95 #[.slice (some ⟨g, 0, none⟩) L.length cap]).run Tryd.prog w.drew = .ok (.pointer (some ⟨g, 0, none⟩)) w.drew :=
    Lib.run_unsafeSliceData_row _ _ _ _ _ _ (by omega)
  have hUS : (Builtin.unsafeString_ #[95, 3] 9 #[.pointer (some ⟨g, 0, none⟩), .int .i64 L.length]).run Tryd.prog w.drew = .ok (.string ⟨L.toArray⟩) (w.drew.freeze ⟨g, 0, none⟩ L.length) := by
    refine Lib.run_unsafeString_row w.drew 95 3 9 5 Tryd.underlying95 (by kernel_rfl) g cur.size (by have hg' : w.drew.heap[g]? = some (.cells cur 5 (0, 0)) := hg; simp [World.shape?, hg']) L h0 (by omega) (by unfold maxLen at hcm; omega) ?_
    intro j x hx
    have := hown.cells (g := g) rfl j (.int .u8 x.toNat) (by simp [Lib.byteCells, hx])
    exact this
  clear h0 hown htake hcs hcm hnc hbk h hne
  go_enter Tryd.func33, Tryd.ntmps33
  go_wp2
  go_region
  all_goals (go_wp2; go_ret; exact ⟨rfl, Lib.below_freeze (Below.drew (Below.refl B w)) (p := ⟨g, 0, none⟩) hbg _⟩)
end Go.Proofs.YtfjgmbimapkabaaDoor
/-
  What the document's own Text answers: the number's decimal numeral.
-/
namespace Go.Proofs.YtfjgmbimapkabaaDoor
open Go.RowKit

/-- The digits of u; none of 0. -/
def dd (u : Nat) : List UInt8 := if u = 0 then [] else Lib.decDigits u

theorem dd_step (u : Nat) (h : u ≠ 0) : dd u = dd (u / 10) ++ [UInt8.ofNat (48 + u % 10)] := by
  unfold dd
  rw [if_neg h]
  by_cases h9 : u < 10
  · rw [Lib.decDigits_one h9, if_pos (by omega), Nat.mod_eq_of_lt h9]
    rfl
  · rw [if_neg (by omega)]
    conv => lhs; rw [Lib.decDigits, dif_neg h9]

theorem dd_pos (u : Nat) (h : u ≠ 0) : dd u = Lib.decDigits u := by unfold dd; rw [if_neg h]

theorem run_byte_string (x : Nat) (hx : x < 256) (W : World) :
    (convert 31 9 (.slice (some ⟨W.heap.size, 0, none⟩) 1 1)).run Tryd.prog (W.alloc (.cells #[.int .u8 (x : Int)] 5)) = .ok (.string ⟨#[UInt8.ofNat x]⟩) (W.alloc (.cells #[.int .u8 (x : Int)] 5)) := by
  refine run_convert_bytes_back (P := Tryd.prog) _ 31 9 5 ⟨W.heap.size, 0, none⟩ 1 [UInt8.ofNat x] Tryd.underlying31 Tryd.underlying5 Tryd.underlying9 ?_
  intro j hj
  simp at hj
  subst hj
  simp [Addr.add, World.cell?_alloc_at]
  omega

set_option maxHeartbeats 1000000 in
theorem reftext_pos (m : Nat) (hm : 0 < m) (h1 : (m : Int) ≤ 9223372036854775807) (w : World) :
    Calls Tryd.prog 22 #[.int .i64 m] w fun e w' => e = .returned (.string ⟨(Lib.decDigits m).toArray⟩) ∧ w.grownBy w' none := by
  have j0 : ((m : Int) == 0) = false := by simp; omega
  have hlen := Lib.itoa_length_le (m : Int) (by omega) h1
  rw [Lib.itoa_nonneg] at hlen
  have HLEN := Nu.hid hlen
  clear hlen
  go_enter Tryd.func22, Tryd.ntmps22
  go_wp2
  go_loopw [3, 4] (fun s c wr => ∃ (k : Nat) (l : List UInt8), k ≤ m ∧ Lib.decDigits m = dd k ++ l ∧ c = .int .i64 k ∧ s = .string ⟨l.toArray⟩ ∧ w.grownBy wr none) (fun _ c _ => (intOf c).toNat)
  case atStart => exact ⟨m, [], Nat.le_refl _, by rw [dd_pos m (by omega)]; simp, rfl, rfl, World.grownBy.refl _ _⟩
  case round =>
    obtain ⟨k, l, hk, hd, rfl, rfl, hg⟩ := hrel
    have hll : l.length ≤ 21 := by
      have := congrArg List.length hd
      rw [List.length_append] at this
      have := HLEN.out
      omega
    have HD := Nu.hid hd
    clear hd
    by_cases hz : k = 0
    · subst hz
      go_wp2
      go_ret
      refine ⟨?_, hg⟩
      rw [HD.out]
      rfl
    · have j1 : ((k : Int) != 0) = true := by simp; omega
      have hk0 : (0 : Int) ≤ (k : Int) := by omega
      have hk1 : (k : Int) ≤ 9223372036854775807 := by omega
      have kc : ∀ W : World, (convert 31 9 (.slice (some ⟨W.heap.size, 0, none⟩) 1 1)).run Tryd.prog (W.alloc (.cells #[.int .u8 (48 + (k : Int) % 10)] 5)) = .ok (.string ⟨#[UInt8.ofNat (48 + k % 10)]⟩) (W.alloc (.cells #[.int .u8 (48 + (k : Int) % 10)] 5)) := fun W => by
        have h := run_byte_string (48 + k % 10) (by omega) W
        rw [show ((48 + k % 10 : Nat) : Int) = 48 + (k : Int) % 10 by omega] at h
        exact h
      go_wp2
      go_roundw
      case rel =>
        refine ⟨k / 10, UInt8.ofNat (48 + k % 10) :: l, by omega, ?_, by go_num, ?_, grownBy_alloc' hg _⟩
        · rw [HD.out, dd_step k hz]; simp
        · simp [ByteArray.mk_append_mk]
      case measure => simp [intOf]; omega

set_option maxHeartbeats 1000000 in
theorem reftext_neg (m : Nat) (hm : 0 < m) (h1 : (m : Int) ≤ 9223372036854775808) (w : World) :
    Calls Tryd.prog 22 #[.int .i64 (-(m : Int))] w fun e w' => e = .returned (.string ⟨(45 :: Lib.decDigits m).toArray⟩) ∧ w.grownBy w' none := by
  have j0 : (-(m : Int) == 0) = false := by simp; omega
  have j2 : -(m : Int) < 0 := by omega
  have hlen := Lib.itoa_length_le (-(m : Int)) (by omega) (by omega)
  rw [Lib.itoa_neg m hm] at hlen
  have HLEN := Nu.hid hlen
  clear hlen
  go_enter Tryd.func22, Tryd.ntmps22
  go_wp2
  go_loopw [3, 4] (fun s c wr => ∃ (k : Nat) (l : List UInt8), k ≤ m ∧ Lib.decDigits m = dd k ++ l ∧ c = .int .i64 (-(k : Int)) ∧ s = .string ⟨l.toArray⟩ ∧ w.grownBy wr none) (fun _ c _ => (intOf c).natAbs)
  case atStart => exact ⟨m, [], Nat.le_refl _, by rw [dd_pos m (by omega)]; simp, rfl, rfl, World.grownBy.refl _ _⟩
  case round =>
    obtain ⟨k, l, hk, hd, rfl, rfl, hg⟩ := hrel
    have hll : l.length ≤ 21 := by
      have := congrArg List.length hd
      rw [List.length_append] at this
      have := HLEN.out
      simp at this
      omega
    have HD := Nu.hid hd
    clear hd
    by_cases hz : k = 0
    · subst hz
      go_wp2
      go_ret
      refine ⟨?_, hg⟩
      rw [HD.out]
      simp [ByteArray.mk_append_mk, dd]
    · have j1 : (-(k : Int) != 0) = true := by simp; omega
      have kc : ∀ W : World, (convert 31 9 (.slice (some ⟨W.heap.size, 0, none⟩) 1 1)).run Tryd.prog (W.alloc (.cells #[.int .u8 (48 + (k : Int) % 10)] 5)) = .ok (.string ⟨#[UInt8.ofNat (48 + k % 10)]⟩) (W.alloc (.cells #[.int .u8 (48 + (k : Int) % 10)] 5)) := fun W => by
        have h := run_byte_string (48 + k % 10) (by omega) W
        rw [show ((48 + k % 10 : Nat) : Int) = 48 + (k : Int) % 10 by omega] at h
        exact h
      by_cases hmod : k % 10 = 0
      · have kc0 : ∀ W : World, (convert 31 9 (.slice (some ⟨W.heap.size, 0, none⟩) 1 1)).run Tryd.prog (W.alloc (.cells #[.int .u8 (48 + -((k : Int) % 10))] 5)) = .ok (.string ⟨#[UInt8.ofNat 48]⟩) (W.alloc (.cells #[.int .u8 (48 + -((k : Int) % 10))] 5)) := fun W => by
          have h := run_byte_string 48 (by omega) W
          rw [show ((48 : Nat) : Int) = 48 + -((k : Int) % 10) by omega] at h
          exact h
        have hm0 : (k : Int) % 10 ≤ 0 := by omega
        have HM := Nu.hid hmod
        clear hmod kc
        go_wp2
        go_roundw
        case rel =>
          refine ⟨k / 10, UInt8.ofNat (48 + k % 10) :: l, by omega, ?_, by go_num, ?_, grownBy_alloc' hg _⟩
          · rw [HD.out, dd_step k hz]; simp
          · rw [HM.out]; simp [ByteArray.mk_append_mk]
        case measure => simp [intOf]; omega
      · have hm0 : 0 < (k : Int) % 10 := by omega
        clear hmod
        go_wp2
        go_roundw
        case rel =>
          refine ⟨k / 10, UInt8.ofNat (48 + k % 10) :: l, by omega, ?_, by go_num, ?_, grownBy_alloc' hg _⟩
          · rw [HD.out, dd_step k hz]; simp
          · simp [ByteArray.mk_append_mk]
        case measure => simp [intOf]; omega

set_option maxHeartbeats 400000 in
theorem reftext_zero (w : World) :
    Calls Tryd.prog 22 #[.int .i64 0] w fun e w' => e = .returned (.string ⟨(Lib.itoa 0).toArray⟩) ∧ w.grownBy w' none := by
  have e0 : Lib.itoa 0 = [48] := by decide +kernel
  rw [e0]
  go_enter Tryd.func22, Tryd.ntmps22
  go_wp2
  go_ret
  exact ⟨rfl, World.grownBy.refl _ _⟩

/-- The document's Text is the decimal numeral, of every int. -/
theorem reftext_any (n : Int) (h0 : -9223372036854775808 ≤ n) (h1 : n ≤ 9223372036854775807) (w : World) :
    Calls Tryd.prog 22 #[.int .i64 n] w fun e w' => e = .returned (.string ⟨(Lib.itoa n).toArray⟩) ∧ w.grownBy w' none := by
  rcases Int.lt_trichotomy n 0 with h | h | h
  · obtain ⟨m, rfl⟩ : ∃ m : Nat, n = -(m : Int) := ⟨n.natAbs, by omega⟩
    rw [Lib.itoa_neg m (by omega)]
    exact reftext_neg m (by omega) (by omega) w
  · subst h
    exact reftext_zero w
  · obtain ⟨m, rfl⟩ : ∃ m : Nat, n = (m : Int) := ⟨n.toNat, by omega⟩
    rw [Lib.itoa_nonneg]
    exact reftext_pos m (by omega) h1 w

end Go.Proofs.YtfjgmbimapkabaaDoor
