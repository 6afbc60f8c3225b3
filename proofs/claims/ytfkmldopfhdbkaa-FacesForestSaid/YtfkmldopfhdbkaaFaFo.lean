/-
  The forest's rotation in memory: lists that are appended to and swapped.
-/
import Derived.Test.YtfkmldopfhdbkaaFaFr
import Derived.Test.YtfkmldopfhdbkaaMg18
import Derived.Test.YtfkmldopfhdbkaaSiRMake
import Derived.Test.YtfkmldopfhdbkaaMg11
import Derived.Test.YtfkmldopfhdbkaaRoQ
import Derived.Test.YtfkmldopfhdbkaaRoRv
import Derived.Test.YtfkmldopfhdbkaaMg04
import Derived.Test.YtfkmldopfhdbkaaMg10
import Derived.Test.YtfkmldopfhdbkaaAnyM
import Derived.Maps.AppendAt
namespace Go.Proofs.Ytfkmldopfhdbkaa
open Go.RowKit Go.Sort

namespace Fa
/-- The half-edges below j that leave a vertex, as ints. -/
def outm (es : List (Int × Int)) (a j : Nat) : List Int := (Cs.out es a j).map fun i : Nat => (i : Int)
def outs (es : List (Int × Int)) (N j : Nat) : List (List Int) := (List.range N).map fun v => outm es v j

theorem outs_len (es : List (Int × Int)) (N j : Nat) : (outs es N j).length = N := by simp [outs]
theorem outs_at {es : List (Int × Int)} {N j v : Nat} (hv : v < N) : (outs es N j)[v]? = some (outm es v j) := by simp [outs, hv]
theorem outs_zero (es : List (Int × Int)) (N : Nat) : outs es N 0 = List.replicate N [] := by
  apply List.ext_getElem?
  intro v
  by_cases hv : v < N
  · rw [outs_at hv]
    simp [hv, outm, Cs.out]
  · rw [List.getElem?_eq_none (by rw [outs_len]; omega), List.getElem?_eq_none (by simp; omega)]

theorem outs_set {es : List (Int × Int)} {N j v : Nat} (hf : Cs.fr es j = v) : (outs es N j).set v (outm es v j ++ [(j : Int)]) = outs es N (j + 1) := by
  apply List.ext_getElem?
  intro u
  by_cases hu : u < N
  · rw [outs_at hu, List.getElem?_set]
    by_cases e : v = u
    · subst e
      rw [if_pos rfl, if_pos (by rw [outs_len]; exact hu)]
      unfold outm
      conv => rhs; arg 1; arg 2; unfold Cs.out
      rw [if_pos hf]
      simp
    · rw [if_neg e, outs_at hu]
      unfold outm
      conv => rhs; arg 1; arg 2; unfold Cs.out
      rw [if_neg (fun h => e (hf.symm.trans h))]
  · rw [List.getElem?_eq_none (by rw [List.length_set, outs_len]; omega), List.getElem?_eq_none (by rw [outs_len]; omega)]

theorem outs_rot {es : List (Int × Int)} {N : Nat} (hv : Si.Val N es) : Ro.Rot N es (outs es N (2 * es.length)) := by
  refine ⟨Si.valid_iff.2 hv, by rw [outs_len], fun v l hl => ?_⟩
  have hvN : v < N := by
    have := (List.getElem?_eq_some_iff.1 hl).1
    rwa [outs_len] at this
  rw [outs_at hvN] at hl
  cases hl
  refine ⟨fun x hx => ?_, ?_, by unfold outm Ro.deg; simp⟩
  · obtain ⟨i, hi, rfl⟩ := List.mem_map.1 hx
    obtain ⟨j, hj⟩ := List.getElem?_of_mem hi
    obtain ⟨h1, h2, -⟩ := Cs.out_of hj
    unfold Ro.lv
    simp only [Bool.and_eq_true, decide_eq_true_eq, beq_iff_eq]
    refine ⟨⟨by omega, by omega⟩, ?_⟩
    unfold Cs.frI
    simp only [Int.toNat_natCast]
    rw [if_pos (by omega), h2]
  · unfold outm
    rw [List.nodup_iff_pairwise_ne, List.pairwise_map]
    refine List.pairwise_iff_getElem.2 fun i j hi hj hij e => ?_
    have := Cs.out_rises hij (List.getElem?_eq_getElem hi) (List.getElem?_eq_getElem hj)
    omega

theorem swap_perm {l : List Int} {j : Nat} {a b : Int} (h0 : l[0]? = some a) (hj : l[j]? = some b) : ((l.set 0 b).set j a).Perm l := by
  obtain ⟨g0, rfl⟩ := List.getElem?_eq_some_iff.1 h0
  obtain ⟨gj, rfl⟩ := List.getElem?_eq_some_iff.1 hj
  exact List.set_set_perm g0 gj

theorem rot_set {n : Int} {es : List (Int × Int)} {ls : List (List Int)} {k : Nat} {l m : List Int} (h : Ro.Rot n es ls) (hl : ls[k]? = some l) (hp : m.Perm l) : Ro.Rot n es (ls.set k m) := by
  refine ⟨h.val, by rw [List.length_set]; exact h.len, fun v x hx => ?_⟩
  rw [List.getElem?_set] at hx
  split at hx
  · rename_i e
    subst e
    split at hx
    · cases hx
      exact (h.each k l hl).of_perm hp
    · cases hx
  · exact h.each v x hx
end Fa

/-- The graph that was made lies in its box, the rotation behind it; U0: the world ahead of the box. -/
structure Fo (U0 : World) (N : Nat) (ao : Option Addr) (ca : Nat) (es : List (Int × Int)) (vs : List Value) (ls : List (List Int)) (W : World) : Prop where
  box : W.heap[U0.heap.size]? = some (.cells #[.int .i64 (N : Int), .slice ao es.length ca] 24 (0, 0))
  len : ls.length = N
  rows : RowsZ W (U0.heap.size + 1) (.slice (some ⟨U0.heap.size + 1, 0, none⟩) N N) vs ls
  low : Below U0.heap.size U0 W

section
variable {U0 : World} {N : Nat} {ao : Option Addr} {ca : Nat} {es : List (Int × Int)} {vs : List Value} {ls : List (List Int)} {W W' : World}
theorem Fo.later (h : Fo U0 N ao ca es vs ls W) (hb : Below W.heap.size W W') : Fo U0 N ao ca es vs ls W' :=
  ⟨(hb.block _ (lt_of_block h.box)).trans h.box, h.len, h.rows.later hb, h.low.trans (hb.mono h.low.size)⟩
theorem Fo.row (h : Fo U0 N ao ca es vs ls W) {u : Nat} {l : List Int} (hl : ls[u]? = some l) : ∃ A C, vs[u]? = some (.slice A l.length C) ∧ W.cell? ⟨U0.heap.size + 1, u, none⟩ = some (.slice A l.length C) ∧ OwnZ W (U0.heap.size + 1) (.slice A l.length C) l := by
  obtain ⟨x, hx⟩ := h.rows.at' hl
  have ho := h.rows.row u x l hx hl
  obtain ⟨A, C, rfl, -⟩ := ho.form
  refine ⟨A, C, hx, ?_, ho⟩
  have hc := World.ownsRow.cells h.rows.outer (g := U0.heap.size + 1) rfl u _ hx
  have ea : ((⟨U0.heap.size + 1, 0, none⟩ : Addr).add u) = ⟨U0.heap.size + 1, u, none⟩ := by
    by_cases h0 : u = 0 <;> simp [Addr.add, h0]
  rw [ea] at hc
  exact hc

/-- One more is appended to list u: the memory that is made ahead, the append's world. -/
theorem Fo.push (h : Fo U0 N ao ca es vs ls W) {u : Nat} {l : List Int} (hl : ls[u]? = some l) (hll : l.length ≤ 8388608) {A : Option Addr} {C : Nat} (hx : vs[u]? = some (.slice A l.length C)) (z : Int) (V : World) (hV : V = W.alloc (.cells #[.int .i64 z] 3)) :
    ∃ A' C' w', (∀ (o : Oper) (ev : Operand → Value) (s x : Operand), o.op = .call { callee := .builtin .append, args := #[s, x], argTypes := #[36, 36] } → o.type = 36 → ev s = .slice A l.length C → ev x = .slice (some ⟨W.heap.size, 0, none⟩) 1 1 → (execOp ev o).run Try.prog V = .ok (.value (.slice A' (l.length + 1) C')) w') ∧
      w'.cell? ⟨U0.heap.size + 1, u, none⟩ = some (.slice A l.length C) ∧ w'.frozen? ⟨U0.heap.size + 1, u, none⟩ = false ∧
      w'.heap[U0.heap.size]? = some (.cells #[.int .i64 (N : Int), .slice ao es.length ca] 24 (0, 0)) ∧ Below U0.heap.size U0 w' ∧
      Fo U0 N ao ca es (vs.set u (.slice A' (l.length + 1) C')) (ls.set u (l ++ [z])) (w'.setCell ⟨U0.heap.size + 1, u, none⟩ (.slice A' (l.length + 1) C')) := by
  subst hV
  obtain ⟨i0, hi, hz0, hz1, hz2⟩ := info_parts Try.infoNum
  have ho := h.rows.row u _ l hx hl
  have hsz := h.low.size
  have hlt := lt_of_block h.box
  have hown : (W.alloc (.cells #[.int .i64 z] 3)).ownsRow (U0.heap.size + 1) 3 1 (.slice A l.length C) l.length (l.map (Value.int .i64)) := World.ownsRow.alloc ho _
  obtain ⟨v', w', hr, h2, h3, _, h5⟩ := run_append_own_at (P := Try.prog) (W.alloc (.cells #[.int .i64 z] 3)) (U0.heap.size + 1) 36 36 3 i0 (.int .i64 0) 1 8 Try.underlying36 hi hz0 hz1 hz2 rfl (by decide) _ _ _ hown ⟨W.heap.size, 0, none⟩ 1 1 [.int .i64 z] rfl (cell_one_new _ _ _) (by simp [Value.oneCell']) (by unfold maxLen; omega) (by omega) (by simp; omega)
  have hoz : OwnZ w' (U0.heap.size + 1) v' (l ++ [z]) := by
    unfold OwnZ
    rw [List.length_append, List.map_append]
    exact h2
  obtain ⟨A', C', rfl, -⟩ := hoz.form
  rw [List.length_append] at hr h5 hoz
  have hput := RowsZ.put (ls := ls) (c := N) (by rw [h.len]; exact h.rows) hx hl (x' := .slice A' (l.length + 1) C') (l' := l ++ [z]) (w1 := w') hoz h3 (by simpa using h5)
  rw [h.len] at hput
  obtain ⟨p1, p2, p3, p4⟩ := hput
  have hg : ∀ k, k < U0.heap.size + 1 → w'.heap[k]? = W.heap[k]? := fun k hk => by
    have hne : Option.some k ≠ (Value.slice A l.length C).ownBlock := fun e => by
      have := (ho.lt (b := k) e.symm).1
      omega
    rw [h3.block k (by rw [World.size_alloc]; omega) (fun e => hne e)]
    exact Below.heap_alloc W _ k (by omega)
  refine ⟨A', C', w', fun o ev s x ho ht hs hx => ?_, p1, p2, (hg _ (by omega)).trans h.box, ?_, ⟨?_, by rw [List.length_set]; exact h.len, p3, ?_⟩⟩
  · unfold execOp
    simp only [ho, ht, resolve, invoke, builtin, Sem.run_bind, Sem.run_pure, Result.andThen_ok, List.map_toArray, List.map_cons, List.map_nil, hs, hx, hr]
    rfl
  · refine ⟨h3.os.trans h.low.os, h3.tape.trans h.low.tape, h3.output.trans h.low.output, ?_, fun k hk => (hg k (by omega)).trans (h.low.block k hk)⟩
    have := h3.size
    rw [World.size_alloc] at this
    omega
  · exact (p4.block _ (by omega)).trans h.box
  · exact h.low.trans (p4.mono (by omega))
end

/-- What a round reads of the graph, wherever the lists lie. -/
theorem fo_look {U0 V : World} {N : Nat} {b o : Nat} {ca : Nat} {es : List (Int × Int)} (hE : EdgesAt U0 (some ⟨b, o, none⟩) es) (hbox : V.heap[U0.heap.size]? = some (.cells #[.int .i64 (N : Int), .slice (some ⟨b, o, none⟩) es.length ca] 24 (0, 0))) (hlow : Below U0.heap.size U0 V) {k : Nat} {p : Int × Int} (hk : es[k]? = some p) :
    V.cell? ⟨U0.heap.size, 1, none⟩ = some (.slice (some ⟨b, o, none⟩) es.length ca) ∧ V.cell? ⟨b, o + k * 2, none⟩ = some (.int .i64 p.1) ∧ V.cell? ⟨b, o + k * 2 + 1, none⟩ = some (.int .i64 p.2) := by
  obtain ⟨b', o', e, c0, c1⟩ := (hE.later hlow) k p hk
  cases e
  exact ⟨(pair_cells hbox).2.1, c0, c1⟩

section
variable {U0 : World} {N : Nat} {ao : Option Addr} {ca : Nat} {es : List (Int × Int)} {vs : List Value} {ls : List (List Int)} {W : World}
theorem rot_few {n : Int} (h : Ro.Rot n es ls) (hf : es.length ≤ 4194304) {u : Nat} {l : List Int} (hl : ls[u]? = some l) : l.length ≤ 8388608 := by
  have h1 := (h.each u l hl).len
  have := Cs.out_len_le (es := es) (v := u) (2 * es.length)
  rw [h1]
  unfold Ro.deg
  omega

/-- Two elements of list u change their places. -/
theorem Fo.swap (h : Fo U0 N ao ca es vs ls W) {u g c j : Nat} {l : List Int} {x y : Int} (hl : ls[u]? = some l) (hx : vs[u]? = some (.slice (some ⟨g, 0, none⟩) l.length c)) (h0 : l[0]? = some x) (hj : l[j]? = some y) (hp : 0 < j) :
    W.cell? ⟨g, 0, none⟩ = some (.int .i64 x) ∧ W.cell? ⟨g, j, none⟩ = some (.int .i64 y) ∧ W.frozen? ⟨g, 0, none⟩ = false ∧ (W.setCell ⟨g, 0, none⟩ (.int .i64 y)).cell? ⟨g, j, none⟩ = some (.int .i64 y) ∧ (W.setCell ⟨g, 0, none⟩ (.int .i64 y)).frozen? ⟨g, j, none⟩ = false ∧
      Fo U0 N ao ca es vs (ls.set u ((l.set 0 y).set j x)) ((W.setCell ⟨g, 0, none⟩ (.int .i64 y)).setCell ⟨g, j, none⟩ (.int .i64 x)) := by
  have hjl := (List.getElem?_eq_some_iff.1 hj).1
  have hul := (List.getElem?_eq_some_iff.1 hl).1
  have ho := h.rows.row u _ l hx hl
  obtain ⟨-, f0, r1, hB⟩ := h.rows.write hx hl rfl (i := 0) (by omega) y
  have hl1 : (ls.set u (l.set 0 y))[u]? = some (l.set 0 y) := by rw [List.getElem?_set, if_pos rfl, if_pos hul]
  have ho1 := r1.row u _ _ hx hl1
  have hy1 : (l.set 0 y)[j]? = some y := by rw [List.getElem?_set, if_neg (by omega)]; exact hj
  obtain ⟨-, f1, r2, -⟩ := r1.write hx hl1 (by rw [List.length_set]) (i := j) hjl x
  refine ⟨ho.cellAt h0, ho.cellAt hj, f0, ho1.cellAt hy1, f1, ⟨?_, by simp [h.len], ?_, ?_⟩⟩
  · rw [heap_setCell_other _ ⟨g, j, none⟩ _ _ (by show U0.heap.size ≠ g; omega), heap_setCell_other _ ⟨g, 0, none⟩ _ _ (by show U0.heap.size ≠ g; omega)]
    exact h.box
  · rw [List.set_set] at r2
    exact r2
  · exact (h.low.setCell (by show U0.heap.size ≤ g; omega) _).setCell (by show U0.heap.size ≤ g; omega) _

theorem Fo.gs (h : Fo U0 N ao ca es vs ls W) (hE : EdgesAt U0 ao es) (hf : es.length ≤ 4194304) (hN : N ≤ 2000) (hr : Ro.Rot N es ls) : GS U0 N ao ca es (some ⟨U0.heap.size + 1, 0, none⟩) ls W := by
  obtain ⟨xo, xc, e, hx, -⟩ := h.rows.rws (fun l hl => by
    obtain ⟨u, hu⟩ := List.getElem?_of_mem hl
    have := rot_few hr hf hu
    omega)
  cases e
  exact ⟨⟨h.box, hE.later h.low, hx, h.low⟩, by omega, by rw [h.len]; omega⟩
end
end Go.Proofs.Ytfkmldopfhdbkaa
