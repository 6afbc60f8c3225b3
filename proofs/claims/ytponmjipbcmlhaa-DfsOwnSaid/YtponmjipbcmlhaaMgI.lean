import Derived.Test.YtponmjipbcmlhaaMgC
import Derived.Sort.Grow
import Derived.Deep.QuietTactic
import Derived.BigQuiet
import Derived.Test.YtponmjipbcmlhaaDfWalk
/-
  Lists with memory of their own, written over and grown, one after another: what stays.
-/
namespace Go.Proofs.Ytponmjipbcmlhaa
open Go.RowKit Go.Sort

/-- What list j is written over with. -/
def ov (j n : Nat) : List Int := (List.range n).map fun t : Nat => 1000 * (j : Int) + (t : Int)
theorem ov_len (j n : Nat) : (ov j n).length = n := by simp [ov]
theorem ov_at {j n t : Nat} (h : t < n) : (ov j n)[t]? = some (1000 * (j : Int) + (t : Int)) := by
  unfold ov
  rw [List.getElem?_map, List.getElem?_range h]
  rfl

/-- The lists below k are written over; the lengths stay. -/
def OverT (ls ls' : List (List Int)) (k : Nat) : Prop := ls'.length = ls.length ∧ ∀ (j : Nat) (l : List Int), ls[j]? = some l → ∃ l', ls'[j]? = some l' ∧ l'.length = l.length ∧ (j < k → l' = ov j l.length)

/-- What list j is grown with. -/
def gr (j : Nat) (l : List Int) (i : Nat) : List Int := l ++ List.replicate i (-(j : Int) - 1)
theorem gr_succ (j : Nat) (l : List Int) (i : Nat) : gr j l (i + 1) = gr j l i ++ [-(j : Int) - 1] := by
  unfold gr
  rw [List.replicate_succ', List.append_assoc]
theorem gr_zero (j : Nat) (l : List Int) : gr j l 0 = l := by simp [gr]
theorem gr_len (j : Nat) (l : List Int) (i : Nat) : (gr j l i).length = l.length + i := by simp [gr]
theorem gr_at {j i t : Nat} {l : List Int} (h : t < i) : (gr j l i)[l.length + t]? = some (-(j : Int) - 1) := by
  unfold gr
  rw [List.getElem?_append_right (by omega), List.getElem?_replicate, if_pos (by omega)]

theorem row_at' {w : World} {B g c N : Nat} {vs : List Value} {ls : List (List Int)} (h : RowsZ w B (.slice (some ⟨g, 0, none⟩) N c) vs ls) {k : Nat} {x : Value} (hx : vs[k]? = some x) : w.cell? ⟨g, k, none⟩ = some x := by
  have := World.ownsRow.cells h.outer (g := g) rfl k x hx
  have ea : ((⟨g, 0, none⟩ : Addr).add k) = ⟨g, k, none⟩ := by
    by_cases h0 : k = 0 <;> simp [Addr.add, h0]
  rw [ea] at this
  exact this

/-- A number of a list of one's own. -/
theorem own_cell {w : World} {B n c : Nat} {ao : Option Addr} {l : List Int} (h : OwnZ w B (.slice ao n c) l) {i : Nat} {z : Int} (hz : l[i]? = some z) : ∃ gx, ao = some ⟨gx, 0, none⟩ ∧ w.cell? ⟨gx, i, none⟩ = some (.int .i64 z) := by
  unfold OwnZ at h
  rcases h.2 with ⟨h', h0⟩ | ⟨gx, cap, cur, e, _⟩
  · have hl0 : l = [] := List.length_eq_zero_iff.1 h0
    rw [hl0] at hz
    simp at hz
  · cases e
    refine ⟨gx, rfl, ?_⟩
    have := World.ownsRow.cells h (g := gx) rfl i (.int .i64 z) (by rw [List.getElem?_map, hz]; rfl)
    have ea : ((⟨gx, 0, none⟩ : Addr).add i) = ⟨gx, i, none⟩ := by
      by_cases h0 : i = 0 <;> simp [Addr.add, h0]
    rw [ea] at this
    exact this

/-- A store into a block that w did not have. -/
theorem Wrote.setNew {S : Nat → Prop} {w V : World} {b i : Nat} (h : Wrote S w V) (hb : w.heap.size ≤ b) (x : Value) : Wrote S w (V.setCell ⟨b, i, none⟩ x) :=
  ⟨h.os, h.tape, h.output, by have := h.size; simp; omega, fun k hk hn => (heap_setCell_other V ⟨b, i, none⟩ k x (by show k ≠ b; omega)).trans (h.block k hk hn)⟩

/-- The block of a list, if it has one. -/
abbrev ofB (x : Value) (b : Nat) : Prop := x.ownBlock = some b

section
variable {w V : World} {B k : Nat} {v x : Value} {vs : List Value} {ls : List (List Int)} {l : List Int}

/-- Only list k's block was written, and list k reads so. -/
theorem RowsZ.upd (h : RowsZ w B v vs ls) (hx : vs[k]? = some x) (hl : ls[k]? = some l) (hw : Wrote (ofB x) w V) (ho : OwnZ V B x l) : RowsZ V B v vs ls := by
  refine ⟨h.len, row_same h.outer fun b hb _ hlt => hw.block b hlt (fun e => h.far k x b hx e hb), fun u y q hy hq => ?_, h.apart, h.far⟩
  by_cases e : u = k
  · subst e
    rw [hx] at hy
    rw [hl] at hq
    cases hy
    cases hq
    exact ho
  · exact (h.row u y q hy hq).same fun b hb hlt => hw.block b hlt (fun e2 => h.apart k u x y b (fun e3 => e e3.symm) hx hy e2 hb)

/-- The first k lists as they are grown, laid into block g2; the lists themselves lie below g2. -/
structure Gr (V : World) (B g2 N k : Nat) (vs gs : List Value) (ls : List (List Int)) : Prop where
  blk : V.heap[g2]? = some (.cells gs.toArray 26 (0, 0))
  len : gs.length = N
  row : ∀ (j : Nat) (l : List Int), j < k → ls[j]? = some l → ∃ y, gs[j]? = some y ∧ OwnZ V B y (gr j l 40) ∧ ∀ b, y.ownBlock = some b → (∃ x, vs[j]? = some x ∧ x.ownBlock = some b) ∨ g2 < b
  low : ∀ (j : Nat) (x : Value) (b : Nat), vs[j]? = some x → x.ownBlock = some b → b < g2

variable {g2 N : Nat} {gs : List Value}

theorem Gr.lt (h : Gr V B g2 N k vs gs ls) : g2 < V.heap.size := lt_of_block h.blk

/-- Only list k's block was written. -/
theorem Gr.keep (h : Gr w B g2 N k vs gs ls) (hr : RowsZ w B v vs ls) (hx : vs[k]? = some x) (hw : Wrote (ofB x) w V) : Gr V B g2 N k vs gs ls := by
  refine ⟨(hw.block g2 h.lt (fun e => by have := h.low k x g2 hx e; omega)).trans h.blk, h.len, fun j l hj hl => ?_, h.low⟩
  obtain ⟨y, h1, h2, h3⟩ := h.row j l hj hl
  refine ⟨y, h1, h2.same fun b hb hlt => hw.block b hlt (fun e => ?_), h3⟩
  rcases h3 b hb with ⟨x', hx', hb'⟩ | h4
  · exact hr.apart k j x x' b (by omega) hx hx' e hb'
  · have := h.low k x b hx e
    omega

/-- One more is laid. -/
theorem Gr.put {y : Value} (h : Gr V B g2 N k vs gs ls) (hk : k < N) (hl : ls[k]? = some l) (ho : OwnZ V B y (gr k l 40)) (hb : ∀ b, y.ownBlock = some b → (∃ x, vs[k]? = some x ∧ x.ownBlock = some b) ∨ g2 < b) : Gr (V.setCell ⟨g2, k, none⟩ y) B g2 N (k + 1) vs (gs.set k y) ls := by
  have far : ∀ (j : Nat) (z : Value), (∀ b, z.ownBlock = some b → (∃ x, vs[j]? = some x ∧ x.ownBlock = some b) ∨ g2 < b) → ∀ b, z.ownBlock = some b → b ≠ g2 := fun j z hz b hb e => by
    rcases hz b hb with ⟨x, hx, hxb⟩ | h1
    · have := h.low j x b hx hxb
      omega
    · omega
  refine ⟨?_, by rw [List.length_set]; exact h.len, fun j q hj hq => ?_, h.low⟩
  · rw [heap_setCell_same V g2 k _ _ _ h.blk]
    simp
  · by_cases e : k = j
    · subst e
      rw [hl] at hq
      cases hq
      exact ⟨y, by rw [List.getElem?_set, if_pos rfl, if_pos (by rw [h.len]; exact hk)], ho.same fun b hb' _ => heap_setCell_other V ⟨g2, k, none⟩ b y (far k y hb b hb'), hb⟩
    · obtain ⟨z, h1, h2, h3⟩ := h.row j q (by omega) hq
      exact ⟨z, by rw [List.getElem?_set, if_neg e]; exact h1, h2.same fun b hb' _ => heap_setCell_other V ⟨g2, k, none⟩ b y (far j z h3 b hb'), h3⟩

theorem Gr.later {V' : World} (h : Gr V B g2 N k vs gs ls) (hb : Below V.heap.size V V') : Gr V' B g2 N k vs gs ls := ⟨(hb.block g2 h.lt).trans h.blk, h.len, fun j l hj hl => by
  obtain ⟨y, h1, h2, h3⟩ := h.row j l hj hl
  exact ⟨y, h1, h2.later hb, h3⟩, h.low⟩
theorem Gr.cell (h : Gr V B g2 N k vs gs ls) {j : Nat} {y : Value} (hy : gs[j]? = some y) : V.cell? ⟨g2, j, none⟩ = some y := by simp [World.cell?, h.blk, hy]
theorem Gr.free (h : Gr V B g2 N k vs gs ls) (j : Nat) : V.frozen? ⟨g2, j, none⟩ = false := by simp [World.frozen?, h.blk]
end

/-- A list under growth: it began as x, a list l of p; what is written is x's block and what was laid since w1. -/
structure Gw (w1 wx : World) (B : Nat) (x : Value) (l : List Int) (j i : Nat) (yo : Option Addr) (yc : Nat) : Prop where
  own : OwnZ wx B (.slice yo (l.length + i) yc) (gr j l i)
  old : OwnZ wx B x l
  frm : x = .slice yo l.length yc ∨ ∃ g', yo = some ⟨g', 0, none⟩ ∧ w1.heap.size ≤ g'
  wr : Wrote (ofB x) w1 wx
  in1 : ∀ b, x.ownBlock = some b → b < w1.heap.size

theorem slice_block {ao ao' : Option Addr} {p q c d : Nat} (h : ao = ao') : (Value.slice ao p c).ownBlock = (Value.slice ao' q d).ownBlock := by
  subst h
  cases ao <;> rfl

/-- One number more. -/
theorem Gw.grow {w1 wx w2 : World} {B : Nat} {x : Value} {l : List Int} {j i : Nat} {yo : Option Addr} {yc : Nat} {o : Obj} (h : Gw w1 wx B x l j i yo yc) {g2 c2 : Nat}
    (hnew : w2.ownsRow B 3 1 (.slice (some ⟨g2, 0, none⟩) (l.length + i + 1) c2) (l.length + i + 1) ((gr j l i).map (Value.int .i64) ++ [.int .i64 (-(j : Int) - 1)])) (hold : w2.ownsRow B 3 1 (.slice yo (l.length + i) yc) (l.length + i) ((gr j l i).map (Value.int .i64)))
    (hgrow : (wx.alloc o).grownBy w2 (Value.slice yo (l.length + i) yc).ownBlock) (hblk : ((Value.slice yo (l.length + i) yc).ownBlock = some g2 ∧ c2 = yc) ∨ (wx.alloc o).heap.size ≤ g2) : Gw w1 w2 B x l j (i + 1) (some ⟨g2, 0, none⟩) c2 := by
  have hsz := hgrow.size
  rw [World.size_alloc] at hsz hblk
  have hw1 := h.wr.size
  have hyb : ∀ b, (Value.slice yo (l.length + i) yc).ownBlock = some b → x.ownBlock = some b ∨ w1.heap.size ≤ b := fun b hb => by
    rcases h.frm with e | ⟨g', rfl, hg'⟩
    · exact .inl (by rw [e, ← hb]; exact slice_block rfl)
    · exact .inr (by have e2 : g' = b := Option.some.inj hb; omega)
  refine ⟨?_, ?_, ?_, ?_, h.in1⟩
  · unfold OwnZ
    rw [gr_succ, List.length_append, gr_len, List.map_append]
    exact hnew
  · rcases h.frm with e | ⟨g', rfl, hg'⟩
    · unfold OwnZ
      rcases h.old.2 with ⟨h', h0⟩ | ⟨gx, c', cur, e', _⟩
      · have hl0 : l = [] := List.length_eq_zero_iff.1 h0
        rw [h', hl0]
        exact World.ownsRow_nil _ _ _ _
      · rw [e] at e'
        cases e'
        rw [e]
        refine own_prefix (i := i) (ys := (List.replicate i (-(j : Int) - 1)).map (Value.int .i64)) ?_ (by simp)
        unfold gr at hold
        rw [List.map_append] at hold
        exact hold
    · refine h.old.same fun b hb hlt => ?_
      rw [hgrow.block b (by rw [World.size_alloc]; omega) (fun e => ?_)]
      · exact Below.heap_alloc wx _ b hlt
      · have e2 : g' = b := (Option.some.inj e).symm
        have := h.in1 b hb
        omega
  · rcases hblk with ⟨h1, rfl⟩ | h1
    · rcases h.frm with e | ⟨g', rfl, hg'⟩
      · left
        cases yo with
        | none => cases h1
        | some a =>
          obtain ⟨ga, oa, sa⟩ := a
          rcases h.own.2 with ⟨h', _⟩ | ⟨gx, c', cur, e', _⟩
          · cases h'
          · injection e' with e3
            injection e3 with e3
            injection e3 with e4 e5 e6
            have e2 : ga = g2 := Option.some.inj h1
            rw [e, e2, e5, e6]
      · right
        have e2 : g' = g2 := Option.some.inj h1
        exact ⟨g2, rfl, by omega⟩
    · exact .inr ⟨g2, rfl, by omega⟩
  · refine ⟨hgrow.os.trans h.wr.os, hgrow.tape.trans h.wr.tape, hgrow.output.trans h.wr.output, by omega, fun b hb hn => ?_⟩
    rw [hgrow.block b (by rw [World.size_alloc]; omega) (fun e => ?_), Below.heap_alloc wx _ b (by omega)]
    · exact h.wr.block b hb hn
    · rcases hyb b e.symm with h2 | h2
      · exact hn h2
      · omega

end Go.Proofs.Ytponmjipbcmlhaa

/-
  The statements' own 'apart': lists that have memory of their own.
-/
namespace Go.Proofs.Ytponmjipbcmlhaa
open Go.RowKit Go.Sort

set_option maxRecDepth 100000 in
set_option maxHeartbeats 16000000 in
theorem apart7_any (g N c : Nat) (vs : List Value) (ls : List (List Int)) (B : Nat) (w : World) (h : RowsZ w B (.slice (some ⟨g, 0, none⟩) N c) vs ls) (hN' : ls.length = N) (hB : B ≤ w.heap.size) (hN : N ≤ 100) (hll : ∀ l ∈ ls, l.length ≤ 8388608) :
    Calls Try.prog 24 #[.slice (some ⟨g, 0, none⟩) N c] w fun e w' => e = .returned (.bool true) ∧ Wrote (inV vs) w w' := by
  obtain ⟨i1, hi1, hy0, hy1, hy2⟩ := info_parts Try.infoRow
  have hmk : ∀ V, (Instr.makeSlice 49 (.int .i64 (N : Int)) (.int .i64 (N : Int))).run Try.prog V = .ok (.slice (some ⟨V.heap.size, 0, none⟩) N N) (V.alloc (.cells (Array.replicate N (Value.slice none 0 0)) 26)) := fun V => by
    have := run_make (P := Try.prog) V 49 26 i1 (.slice none 0 0) Try.underlying49 hi1 hy0 .i64 .i64 (N : Int) (N : Int) (by omega) (Int.le_refl _) (by rw [hy2]; omega) (by omega)
    rw [this, hy1]
    have e : madeCells #[Value.slice none 0 0] N = Array.replicate N (Value.slice none 0 0) := by
      apply Array.ext'
      rw [toList_madeCells_one]
      simp
    simp [Value.cells, e]
  have H := Nu.hid h
  have HLL := Nu.hid hll
  have HN := Nu.hid hN'
  obtain ⟨W, hW⟩ : ∃ W, W = w.alloc (.cells (Array.replicate N (Value.slice none 0 0)) 26) := ⟨_, rfl⟩
  have hb0 : Below w.heap.size w W := by rw [hW]; exact (Below.refl _ _).alloc (Nat.le_refl _) _
  have HW := Nu.hid hW
  have HGR : Hid (Gr W B w.heap.size N 0 vs (List.replicate N (Value.slice none 0 0)) ls) := ⟨by rw [hW, heap_alloc_new]; simp, by simp, fun j l hj => (by omega), fun j x b hx hb => by
    obtain ⟨l, hl⟩ := h.at hx
    exact (World.ownsRow.lt (h.row j x l hx hl) b hb).2⟩
  have HSTART : Hid (RowsZ W B (.slice (some ⟨g, 0, none⟩) N c) vs ls ∧ Wrote (inV vs) w W) := ⟨h.later hb0, (Wrote.refl _ _).later hb0⟩
  have HINV : Hid (∀ b, inV vs b → b < w.heap.size) := fun b hb => by
    obtain ⟨u, x, hx, hb⟩ := hb
    obtain ⟨l, hl⟩ := h.at hx
    exact (World.ownsRow.lt (h.row u x l hx hl) b hb).2
  have HOUT : Hid (g < w.heap.size) := (World.ownsRow.lt h.outer g rfl).2
  clear h hll hN' hW hb0
  go_enter Try.func24, Try.ntmps24
  go_wp2_with fail
  rw [← HW.out]
  clear hmk
  -- written over
  go_loopw [4] (fun cv wr => ∃ (k : Nat) (ls' : List (List Int)), k ≤ N ∧ cv = .int .i64 (k : Int) ∧ RowsZ wr B (.slice (some ⟨g, 0, none⟩) N c) vs ls' ∧ OverT ls ls' k ∧ Wrote (inV vs) w wr ∧ wr.heap[w.heap.size]? = W.heap[w.heap.size]?) (fun cv _ => N - (intOf cv).toNat)
  case atStart => exact ⟨0, ls, Nat.zero_le _, rfl, HSTART.out.1, ⟨rfl, fun j l hl => ⟨l, hl, rfl, fun h => by omega⟩⟩, HSTART.out.2, rfl⟩
  case round =>
    obtain ⟨k, ls', hk, rfl, hrows, hov, hwr, hgb⟩ := hrel
    obtain ⟨w0, rfl⟩ : ∃ w0, w0 = wr := ⟨wr, rfl⟩
    have HOV := Nu.hid hov
    have HROWS := Nu.hid hrows
    have HWR := Nu.hid hwr
    have HGB := Nu.hid hgb
    by_cases hlt : k < N
    · have hlti : (k : Int) < (N : Int) := by omega
      have hk0 : (0 : Int) ≤ (k : Int) := by omega
      obtain ⟨l, hl⟩ : ∃ l, ls[k]? = some l := ⟨_, List.getElem?_eq_getElem (by rw [HN.out]; exact hlt)⟩
      obtain ⟨l', hl', hll', -⟩ := hov.2 k l hl
      obtain ⟨x, hx⟩ := hrows.at' hl'
      have cx := row_at' hrows hx
      obtain ⟨xo, xc, hxe, -, -⟩ := (hrows.row k x l' hx hl').form
      have hlen : ls'.length = N := by rw [hov.1, HN.out]
      obtain ⟨p, hp⟩ : ∃ p, l'.length = p := ⟨_, rfl⟩
      rw [hp] at hxe
      have hpl : p ≤ 8388608 := by rw [← hp, hll']; exact HLL.out l (List.mem_of_getElem? hl)
      subst hxe
      have HX := Nu.hid hx
      have HL := Nu.hid hl
      have HL' := Nu.hid hl'
      have HP := Nu.hid hp
      have HPL : Hid (l.length = p) := hll'.symm.trans hp
      have HLEN := Nu.hid hlen
      clear hrows hov hwr hx hl hl' hll' hp hlen hgb
      go_wp2
      clear cx
      go_loopw [5] (fun cv wx => ∃ (i : Nat) (q : List Int), i ≤ p ∧ cv = .int .i64 (i : Int) ∧ q.length = p ∧ (∀ t, t < i → q[t]? = some (1000 * (k : Int) + (t : Int))) ∧ RowsZ wx B (.slice (some ⟨g, 0, none⟩) N c) vs (ls'.set k q) ∧ Wrote (inV vs) w wx ∧ wx.heap[w.heap.size]? = W.heap[w.heap.size]?) (fun cv _ => p - (intOf cv).toNat)
      case atStart =>
        refine ⟨0, l', Nat.zero_le _, rfl, HP.out, fun t ht => by omega, ?_, HWR.out, HGB.out⟩
        have e : ls'.set k l' = ls' := by
          refine List.ext_getElem? fun j => ?_
          rw [List.getElem?_set]
          by_cases e : k = j
          · subst e
            rw [if_pos rfl, if_pos (by rw [HLEN.out]; exact hlt), HL'.out]
          · rw [if_neg e]
        rw [e]
        exact HROWS.out
      case round =>
        obtain ⟨i, q, hip, rfl, hq, hqt, hrx, hwx, hgx2⟩ := hrel
        have HRX := Nu.hid hrx
        have HWX := Nu.hid hwx
        have HQ := Nu.hid hq
        have HQT := Nu.hid hqt
        have HGX := Nu.hid hgx2
        have cx := row_at' hrx HX.out
        by_cases hil : i < p
        · have hili : (i : Int) < (p : Int) := by omega
          have hi0 : (0 : Int) ≤ (i : Int) := by omega
          obtain ⟨gx, hgx⟩ : ∃ gx, xo = some ⟨gx, 0, none⟩ := by
            have := hrx.row k _ q HX.out (by rw [List.getElem?_set, if_pos rfl, if_pos (by rw [HLEN.out]; exact hlt)])
            rcases this.2 with ⟨h', h0⟩ | ⟨g', c', cur, e', _⟩
            · omega
            · cases e'; exact ⟨g', rfl⟩
          subst hgx
          obtain ⟨⟨y, cy⟩, fy, hrw, -⟩ := hrx.write HX.out (by rw [List.getElem?_set, if_pos rfl, if_pos (by rw [HLEN.out]; exact hlt)]) hq hil (1000 * (k : Int) + (i : Int))
          have HRW := Nu.hid hrw
          have HWW := Nu.hid (hwx.setCell (b := gx) (i := i) ⟨k, _, HX.out, rfl⟩ (.int .i64 (1000 * (k : Int) + (i : Int))))
          have hgne : w.heap.size ≠ gx := by
            have := HINV.out gx ⟨k, _, HX.out, rfl⟩
            omega
          have HGW : Hid ((wr.setCell ⟨gx, i, none⟩ (.int .i64 (1000 * (k : Int) + (i : Int)))).heap[w.heap.size]? = W.heap[w.heap.size]?) := (heap_setCell_other wr ⟨gx, i, none⟩ w.heap.size _ hgne).trans hgx2
          clear hq hqt hrx hwx hrw hgx2 hgne
          go_wp2
          go_roundw
          case rel =>
            refine ⟨i + 1, q.set i (1000 * (k : Int) + (i : Int)), by omega, by go_num, by rw [List.length_set]; exact HQ.out, fun t ht => ?_, ?_, HWW.out, HGW.out⟩
            · rw [List.getElem?_set]
              by_cases e : i = t
              · rw [if_pos e, if_pos (by rw [HQ.out]; exact hil), e]
              · rw [if_neg e]; exact HQT.out t (by omega)
            · have := HRW.out
              rw [List.set_set] at this
              exact this
          case measure => simp [intOf]; omega
        · have hd2 : ¬ ((i : Int) < (p : Int)) := by omega
          have hqr : q = ov k l.length := by
            refine List.ext_getElem? fun t => ?_
            rw [HPL.out]
            by_cases ht : t < p
            · rw [ov_at ht]; exact hqt t (by omega)
            · rw [List.getElem?_eq_none (by omega), List.getElem?_eq_none (by rw [ov_len]; omega)]
          have HQR := Nu.hid hqr
          clear hq hqt hrx hwx hqr hgx2
          go_wp2
          go_roundw
          case rel =>
            refine ⟨k + 1, _, by omega, by go_num, HRX.out, ⟨by rw [List.length_set]; exact HOV.out.1, fun j b hb => ?_⟩, HWX.out, HGX.out⟩
            rw [List.getElem?_set]
            by_cases e : k = j
            · subst e
              rw [HL.out] at hb
              cases hb
              exact ⟨q, by rw [if_pos rfl, if_pos (by rw [HLEN.out]; exact hlt)], by rw [HQ.out, HPL.out], fun _ => HQR.out⟩
            · rw [if_neg e]
              obtain ⟨b', h1, h2, h3⟩ := HOV.out.2 j b hb
              exact ⟨b', h1, h2, fun hj => h3 (by omega)⟩
          case measure => simp [intOf]; omega
    · have hd : ¬ ((k : Int) < (N : Int)) := by omega
      obtain rfl : k = N := by omega
      have HN' : Hid (ls'.length = k) := hov.1.trans HN.out
      have hllN : ∀ (j : Nat) (l : List Int), ls'[j]? = some l → l.length ≤ 8388608 ∧ l = ov j l.length := fun j l' hl' => by
        have hjl := (List.getElem?_eq_some_iff.1 hl').1
        obtain ⟨l, hl⟩ : ∃ l, ls[j]? = some l := ⟨_, List.getElem?_eq_getElem (by rw [← hov.1]; exact hjl)⟩
        obtain ⟨l2, h1, h2, h3⟩ := hov.2 j l hl
        rw [hl'] at h1
        cases h1
        refine ⟨by rw [h2]; exact HLL.out l (List.mem_of_getElem? hl), ?_⟩
        rw [h2]
        exact h3 (by rw [HN'.out] at hjl; exact hjl)
      have HLN := Nu.hid hllN
      have HG0 : Hid (Gr w0 B w.heap.size k 0 vs (List.replicate k (Value.slice none 0 0)) ls') := ⟨hgb.trans HGR.out.blk, by simp, fun j l hj => (by omega), HGR.out.low⟩
      have hBw : B ≤ w0.heap.size := Nat.le_trans hB hwr.size
      clear hrows hov hwr hllN hgb hlt
      go_wp2
      clear hd
      go_loopw [6] (fun cv wr => ∃ (j : Nat) (gs : List Value), j ≤ k ∧ cv = .int .i64 (j : Int) ∧ RowsZ wr B (.slice (some ⟨g, 0, none⟩) k c) vs ls' ∧ Gr wr B w.heap.size k j vs gs ls' ∧ Wrote (inV vs) w wr) (fun cv _ => k - (intOf cv).toNat)
      case atStart => exact ⟨0, _, Nat.zero_le _, rfl, HROWS.out, HG0.out, HWR.out⟩
      case round =>
        obtain ⟨j, gs, hj, rfl, hrows, hgr, hwr⟩ := hrel
        obtain ⟨w1, rfl⟩ : ∃ w1, w1 = wr := ⟨wr, rfl⟩
        have HR1 := Nu.hid hrows
        have HG1 := Nu.hid hgr
        have HW1 := Nu.hid hwr
        by_cases hjk : j < k
        · have hjki : (j : Int) < (k : Int) := by omega
          have hj0 : (0 : Int) ≤ (j : Int) := by omega
          obtain ⟨l, hl⟩ : ∃ l, ls'[j]? = some l := ⟨_, List.getElem?_eq_getElem (by rw [HN'.out]; exact hjk)⟩
          obtain ⟨x, hx⟩ := hrows.at' hl
          have cx := row_at' hrows hx
          obtain ⟨xo, xc, hxe, -, -⟩ := (hrows.row j x l hx hl).form
          have hlL := (HLN.out j l hl).1
          have hbs : B ≤ w1.heap.size := Nat.le_trans hB hwr.size
          have HGW : Hid (Gw w1 w1 B x l j 0 xo xc) := ⟨by rw [gr_zero, Nat.add_zero, ← hxe]; exact hrows.row j x l hx hl, hrows.row j x l hx hl, .inl hxe, Wrote.refl _ _, fun b hb => (World.ownsRow.lt (hrows.row j x l hx hl) b hb).2⟩
          have HX := Nu.hid hx
          have HL := Nu.hid hl
          have HXE := Nu.hid hxe
          have HGS : Hid (∃ y0, gs[j]? = some y0) := ⟨_, List.getElem?_eq_getElem (by rw [hgr.len]; exact hjk)⟩
          rw [hxe] at cx
          clear hrows hgr hwr hx hl hxe
          go_wp2
          clear cx
          go_loopw [7, 8] (fun gw cv wx => ∃ (i : Nat) (yo : Option Addr) (yc : Nat), i ≤ 40 ∧ cv = .int .i64 (i : Int) ∧ gw = .slice yo (l.length + i) yc ∧ Gw w1 wx B x l j i yo yc) (fun _ cv _ => 40 - (intOf cv).toNat)
          case atStart => exact ⟨0, xo, xc, by omega, rfl, rfl, HGW.out⟩
          case round =>
            obtain ⟨i, yo, yc, hi40, rfl, rfl, hgw⟩ := hrel
            have HGX := Nu.hid hgw
            have hszx := hgw.wr.size
            by_cases hi4 : i < 40
            · have hi4i : (i : Int) < 40 := by omega
              have hown : wr.ownsRow B 3 1 (.slice yo (l.length + i) yc) (l.length + i) ((gr j l i).map (Value.int .i64)) := by
                have := hgw.own
                unfold OwnZ at this
                rw [gr_len] at this
                exact this
              have HOWN := Nu.hid hown
              clear hgw hown
              go_wp2_with (at_builtin; refine Hid.out ?_)
              refine Nu.hid ?_
              refine wpList_append_keep rfl _ _ rfl B (l.length + i) yo yc _ (-(j : Int) - 1) rfl (World.ownsRow.alloc HOWN.out _) ⟨wr.heap.size, 0, none⟩ rfl (cell_one_new _ _ _) (by omega) (by rw [World.size_alloc]; omega) ?_
              intro g2 c2 w2 hnew hold hgrow hblk hlt2
              have HG2 := Nu.hid (HGX.out.grow hnew hold hgrow hblk)
              clear hnew hold hgrow hblk
              go_wp2
              go_roundw
              case rel => exact ⟨i + 1, some ⟨g2, 0, none⟩, c2, by omega, by go_num, rfl, HG2.out⟩
              case measure => simp [intOf]; omega
            · have hd3 : ¬ (i : Int) < 40 := by omega
              obtain rfl : i = 40 := by omega
              obtain ⟨y0, hy0⟩ := HGS.out
              have hg5 := HG1.out.keep HR1.out HX.out hgw.wr
              have cy := hg5.cell hy0
              have fy := hg5.free j
              have hput := hg5.put (y := .slice yo (l.length + 40) yc) hjk HL.out hgw.own (fun b hb => by
                rcases hgw.frm with e | ⟨g', rfl, hg'⟩
                · exact .inl ⟨x, HX.out, by rw [e, ← hb]; exact slice_block rfl⟩
                · have e2 : g' = b := Option.some.inj hb
                  have := HG1.out.lt
                  exact .inr (by omega))
              have hr5 := HR1.out.upd HX.out HL.out hgw.wr hgw.old
              have hrn : RowsZ (wr.setCell ⟨w.heap.size, j, none⟩ (.slice yo (l.length + 40) yc)) B (.slice (some ⟨g, 0, none⟩) k c) vs ls' := hr5.kept fun b hb _ => heap_setCell_other wr ⟨w.heap.size, j, none⟩ b _ (fun e => by
                have e' : b = w.heap.size := e
                rcases hb with hb | hb
                · have e2 : g = b := Option.some.inj hb
                  have := HOUT.out
                  omega
                · have := HINV.out b hb
                  omega)
              have hwn : Wrote (inV vs) w (wr.setCell ⟨w.heap.size, j, none⟩ (.slice yo (l.length + 40) yc)) := (HW1.out.trans (hgw.wr.mono fun b _ hb => ⟨j, x, HX.out, hb⟩)).setNew (Nat.le_refl _) _
              have HPUT := Nu.hid hput
              have HRN := Nu.hid hrn
              have HWN := Nu.hid hwn
              clear hgw hg5 hput hr5 hrn hwn hy0
              go_wp2
              go_roundw
              case rel => exact ⟨j + 1, _, by omega, by go_num, HRN.out, HPUT.out, HWN.out⟩
              case measure => simp [intOf]; omega
        · have hd3 : ¬ ((j : Int) < (k : Int)) := by omega
          obtain rfl : j = k := by omega
          have HALL : Hid (∀ V, Below w1.heap.size w1 V → RowsZ V B (.slice (some ⟨g, 0, none⟩) j c) vs ls' ∧ Gr V B w.heap.size j j vs gs ls') := fun V hV => ⟨hrows.later hV, hgr.later hV⟩
          clear hrows hgr hwr hjk
          go_wp2
          clear hd3
          go_loopw [9] (fun cv wr => ∃ q : Nat, q ≤ j ∧ cv = .int .i64 (q : Int) ∧ Below w1.heap.size w1 wr) (fun cv _ => j - (intOf cv).toNat)
          case atStart => exact ⟨0, Nat.zero_le _, rfl, Below.refl _ _⟩
          case round =>
            obtain ⟨q, hq, rfl, hb⟩ := hrel
            have HB := Nu.hid hb
            by_cases hqj : q < j
            · have hqji : (q : Int) < (j : Int) := by omega
              have hq0 : (0 : Int) ≤ (q : Int) := by omega
              obtain ⟨l, hl⟩ : ∃ l, ls'[q]? = some l := ⟨_, List.getElem?_eq_getElem (by rw [HN'.out]; exact hqj)⟩
              obtain ⟨x, hx⟩ := HR1.out.at' hl
              obtain ⟨xo, xc, hxe, -, -⟩ := (HR1.out.row q x l hx hl).form
              obtain ⟨y, hy, -, -⟩ := HG1.out.row q l hqj hl
              have hlL := HLN.out q l hl
              have hyf : ∃ gy cy, y = .slice (some ⟨gy, 0, none⟩) (l.length + 40) cy := by
                obtain ⟨y', hy', ho, _⟩ := HG1.out.row q l hqj hl
                rw [hy] at hy'
                cases hy'
                unfold OwnZ at ho
                rw [gr_len] at ho
                exact own_succ ho
              obtain ⟨gy, cy, rfl⟩ := hyf
              have HCELL : Hid (∀ V, Below w1.heap.size w1 V → V.cell? ⟨g, q, none⟩ = some (.slice xo l.length xc) ∧ V.cell? ⟨w.heap.size, q, none⟩ = some (.slice (some ⟨gy, 0, none⟩) (l.length + 40) cy) ∧ (∀ i, i < l.length → ∃ gx, xo = some ⟨gx, 0, none⟩ ∧ V.cell? ⟨gx, i, none⟩ = some (.int .i64 (1000 * (q : Int) + (i : Int)))) ∧ (∀ t, t < 40 → V.cell? ⟨gy, l.length + t, none⟩ = some (.int .i64 (-(q : Int) - 1)))) := fun V hV => by
                obtain ⟨h1, h2⟩ := HALL.out V hV
                have hrow := h1.row q x l hx hl
                rw [hxe] at hrow
                refine ⟨by rw [← hxe]; exact row_at' h1 hx, h2.cell hy, fun i hi => own_cell hrow (by rw [hlL.2]; exact ov_at hi), fun t ht => ?_⟩
                obtain ⟨y', hy', ho, _⟩ := h2.row q l hqj hl
                rw [hy] at hy'
                cases hy'
                obtain ⟨gx, e, h3⟩ := own_cell ho (gr_at (l := l) ht)
                cases e
                exact h3
              have hl8 := hlL.1
              clear hb hl hx hxe hy hlL
              go_wp2
              go_loopw [10] (fun cv wr => ∃ i : Nat, i ≤ l.length ∧ cv = .int .i64 (i : Int) ∧ Below w1.heap.size w1 wr) (fun cv _ => l.length - (intOf cv).toNat)
              case atStart => exact ⟨0, Nat.zero_le _, rfl, HB.out⟩
              case round =>
                obtain ⟨i, hi, rfl, hb⟩ := hrel
                obtain ⟨z0, z1, z2, z3⟩ := HCELL.out wr hb
                have HBI := Nu.hid hb
                by_cases hil : i < l.length
                · have hili : (i : Int) < (l.length : Int) := by omega
                  have hi0 : (0 : Int) ≤ (i : Int) := by omega
                  obtain ⟨gx, rfl, z4⟩ := z2 i hil
                  have t1 : ((1000 * (q : Int) + (i : Int)) != (1000 * (q : Int) + (i : Int))) = false := by simp
                  clear hb z2 z3
                  go_wp2
                  go_roundw
                  case rel => exact ⟨i + 1, by omega, by go_num, HBI.out⟩
                  case measure => simp [intOf]; omega
                · have hd4 : ¬ ((i : Int) < (l.length : Int)) := by omega
                  clear hb z2 z3
                  go_wp2
                  clear z0 z1
                  go_loopw [11] (fun cv wr => ∃ t : Nat, t ≤ 40 ∧ cv = .int .i64 (t : Int) ∧ Below w1.heap.size w1 wr) (fun cv _ => 40 - (intOf cv).toNat)
                  case atStart => exact ⟨0, Nat.zero_le _, rfl, HBI.out⟩
                  case round =>
                    obtain ⟨t, ht, rfl, hb⟩ := hrel
                    obtain ⟨z0, z1, z2, z3⟩ := HCELL.out wr hb
                    have HBT := Nu.hid hb
                    by_cases ht4 : t < 40
                    · have ht4i : (t : Int) < 40 := by omega
                      have z4 := z3 t ht4
                      have t0 : (0 : Int) ≤ (l.length : Int) + (t : Int) := by omega
                      have t2 : (l.length : Int) + (t : Int) < (l.length : Int) + 40 := by omega
                      clear hb z2 z3
                      go_wp2_with fail
                      go_quiet (fail)
                      go_wp2
                      go_roundw
                      case rel => exact ⟨t + 1, by omega, by go_num, below_drewN HBT.out _⟩
                      case measure => simp [intOf]; omega
                    · have hd5 : ¬ ((t : Int) < 40) := by omega
                      clear hb z2 z3
                      go_wp2
                      go_roundw
                      case rel => exact ⟨q + 1, by omega, by go_num, HBT.out⟩
                      case measure => simp [intOf]; omega
            · have hd4 : ¬ ((q : Int) < (j : Int)) := by omega
              clear hb
              go_wp2
              go_ret
              exact ⟨rfl, HW1.out.later HB.out⟩

end Go.Proofs.Ytponmjipbcmlhaa

/-
  The lists of two forests, each in memory of its own, in one list.
-/
namespace Go.Proofs.Ytponmjipbcmlhaa
open Go.RowKit Go.Sort

/-- No block in common. -/
def Apt (x y : Value) : Prop := ∀ b, x.ownBlock = some b → y.ownBlock ≠ some b
theorem Apt.symm {x y : Value} (h : Apt x y) : Apt y x := fun b h1 h2 => h b h2 h1

theorem OwnF.pairwise {w : World} {B : Nat} {v1 v2 v3 v4 : Value} {s : Df.St} (h : OwnF w B v1 v2 v3 v4 s) : List.Pairwise Apt [v1, v2, v3, v4] := by
  refine List.pairwise_cons.2 ⟨fun y hy => ?_, List.pairwise_cons.2 ⟨fun y hy => ?_, List.pairwise_cons.2 ⟨fun y hy => ?_, List.pairwise_cons.2 ⟨fun y hy => by simp at hy, List.Pairwise.nil⟩⟩⟩⟩
  · simp only [List.mem_cons, List.not_mem_nil, or_false] at hy
    rcases hy with rfl | rfl | rfl
    · exact h.n12
    · exact h.n13
    · exact h.n14
  · simp only [List.mem_cons, List.not_mem_nil, or_false] at hy
    rcases hy with rfl | rfl
    · exact h.n23
    · exact h.n24
  · simp only [List.mem_cons, List.not_mem_nil, or_false] at hy
    subst hy
    exact h.n34

theorem OwnF.each {w : World} {B : Nat} {v1 v2 v3 v4 : Value} {s : Df.St} (h : OwnF w B v1 v2 v3 v4 s) : ∀ (u : Nat) (x : Value) (l : List Int), [v1, v2, v3, v4][u]? = some x → [s.par, s.hei, s.ord, s.ori][u]? = some l → OwnZ w B x l := fun u x l hx hl => by
  match u with
  | 0 => cases hx; cases hl; exact h.o1
  | 1 => cases hx; cases hl; exact h.o2
  | 2 => cases hx; cases hl; exact h.o3
  | 3 => cases hx; cases hl; exact h.o4
  | u + 4 => simp at hx

theorem OwnF.block_lt {w : World} {B : Nat} {v1 v2 v3 v4 : Value} {s : Df.St} (h : OwnF w B v1 v2 v3 v4 s) : ∀ x ∈ [v1, v2, v3, v4], ∀ b, x.ownBlock = some b → B ≤ b ∧ b < w.heap.size := fun x hx b hb => by
  simp only [List.mem_cons, List.not_mem_nil, or_false] at hx
  rcases hx with rfl | rfl | rfl | rfl
  · exact World.ownsRow.lt h.o1 b hb
  · exact World.ownsRow.lt h.o2 b hb
  · exact World.ownsRow.lt h.o3 b hb
  · exact World.ownsRow.lt h.o4 b hb

/-- Eight lists, laid into a block of their own. -/
theorem rows_eight {w : World} {B M : Nat} {v1 v2 v3 v4 u1 u2 u3 u4 : Value} {s : Df.St} (hb : OwnF w M v1 v2 v3 v4 s) (ha : OwnF w B u1 u2 u3 u4 s) (hBM : B ≤ M) (hlt : ∀ x ∈ [u1, u2, u3, u4], ∀ b, x.ownBlock = some b → b < M) (hB : B ≤ w.heap.size) :
    RowsZ (w.alloc (.cells #[v1, v2, v3, v4, u1, u2, u3, u4] 26)) B (.slice (some ⟨w.heap.size, 0, none⟩) 8 8) ([v1, v2, v3, v4] ++ [u1, u2, u3, u4]) ([s.par, s.hei, s.ord, s.ori] ++ [s.par, s.hei, s.ord, s.ori]) := by
  have hbel : Below w.heap.size w (w.alloc (.cells #[v1, v2, v3, v4, u1, u2, u3, u4] 26)) := (Below.refl _ _).alloc (Nat.le_refl _) _
  have hp : List.Pairwise Apt ([v1, v2, v3, v4] ++ [u1, u2, u3, u4]) := List.pairwise_append.2 ⟨hb.pairwise, ha.pairwise, fun x hx y hy b h1 h2 => by
    have := (hb.block_lt x hx b h1).1
    have := hlt y hy b h2
    omega⟩
  have hall : ∀ x ∈ [v1, v2, v3, v4] ++ [u1, u2, u3, u4], ∀ b, x.ownBlock = some b → b < w.heap.size := fun x hx b h1 => by
    rcases List.mem_append.1 hx with hx | hx
    · exact (hb.block_lt x hx b h1).2
    · exact (ha.block_lt x hx b h1).2
  refine ⟨rfl, ⟨rfl, .inr ⟨w.heap.size, 8, #[v1, v2, v3, v4, u1, u2, u3, u4], rfl, hB, heap_alloc_new w _, Nat.le_refl 8, by unfold maxLen; omega, rfl, rfl⟩⟩, fun u x l hx hl => ?_, fun u u' x x' b hne hx hx' h1 h2 => ?_, fun u x b hx h1 h2 => ?_⟩
  · by_cases hu : u < 4
    · rw [List.getElem?_append_left (by simpa using hu)] at hx hl
      exact ((hb.each u x l hx hl).lower hBM).later hbel
    · rw [List.getElem?_append_right (by simp; omega)] at hx hl
      exact (ha.each _ x l hx hl).later hbel
  · obtain ⟨k1, e1⟩ := List.getElem?_eq_some_iff.1 hx
    obtain ⟨k2, e2⟩ := List.getElem?_eq_some_iff.1 hx'
    rw [List.pairwise_iff_getElem] at hp
    rcases Nat.lt_or_gt_of_ne hne with h | h
    · have := hp u u' k1 k2 h
      rw [e1, e2] at this
      exact this b h1 h2
    · have := hp u' u k2 k1 h
      rw [e1, e2] at this
      exact this b h2 h1
  · have := hall x (List.mem_of_getElem? hx) b h1
    have e : w.heap.size = b := Option.some.inj h2
    omega

end Go.Proofs.Ytponmjipbcmlhaa
