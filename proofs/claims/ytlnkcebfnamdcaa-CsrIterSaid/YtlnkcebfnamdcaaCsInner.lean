/-
  Proved: a round of the innermost loop of the law CsrIter.
-/
import Derived.Test.YtlnkcebfnamdcaaCsRest
import Derived.Test.YtlnkcebfnamdcaaCsAwake
import Derived.Test.YtlnkcebfnamdcaaCsRV
import Derived.Test.YtlnkcebfnamdcaaCsQuiet
import Derived.Test.YtlnkcebfnamdcaaSiGin
import Derived.Maps.OwnIn
import Derived.Laws.EntriesVeiled
namespace Go.Proofs.Ytlnkcebfnamdcaa
open Go.ChangeShapes Go.WideShapes Go.ChangeAt Go.RowKit Go.Shelf
namespace lawIter

attribute [local go_sem] Oper.semAt_some


def rfBody : Code → Code
  | .rangeFunc _ _ _ b => b
  | c => c

def blk : Code → Code
  | .block _ c => c
  | c => c

set_option maxRecDepth 100000 in
set_option maxHeartbeats 4000000 in
/-- A round of the innermost loop. -/
theorem inner {v0 v1 v2 v4 v5 v7 v8 v9 v10 v11 v12 v14 v16 v17 v18 v19 v20 v21 v22 v23 v24 v25 v26 v27 v28 v29 v30 v31 v32 v33 v34 v35 v36 v37 v38 v39 v40 v41 v42 v43 v44 v45 v46 v47 v48 v49 v50 v51 v52 v53 v54 v55 v56 v57 v58 v59 v60 v61 v62 v63 v64 v65 v66 v67 v68 v69 v70 v71 v72 v73 v74 v75 v76 v77 v78 v79 v80 v81 v82 v83 v84 v85 v86 v87 v88 v89 v90 v91 v92 v93 v94 v95 v96 v97 v98 v99 v100 v101 v102 v103 v104 v105 v106 v107 v108 : Value} {l l2 n : Nat} {Q : Exit → Act → World → Prop} {m : Nat} {ao : Option Addr} {ca : Nat} {E p q gB X : Nat} {j : Int} {W : World}
    (hxy : XY (X + 2) X (X + 1) p q W) (hW : X + 2 ≤ W.heap.size) (hgX : gB + 4 ≤ X) (hg : W.heap[gB]? = some (.cells #[.int .i64 m, .slice ao E ca] 24 (0, 0))) (hR : Boxed W (gB + 1 + 1 + 1) 4 (.bool false))
    (hE : E ≤ 4194304) (hq : q + 1 ≤ E * E)
    (hn : ∀ a' W', XY (X + 2) X (X + 1) p (q + 1) W' → KeepsOthers W W' → Wrote (fun b => b = X + 1 ∨ X + 2 ≤ b) W W' → Q .normal a' W')
    (hr : ∀ a' W', Boxed W' (gB + 1 + 1 + 1) 4 (.bool true) → KeepsOthers W W' → Wrote (fun b => b = X + 1 ∨ X + 2 ≤ b ∨ b = gB + 1 + 1 + 1) W W' → Q .ret a' W') :
    Code.wpIn ((Fence.wide.inRound l).inRound l2) n Try.prog (rfBody (blk (spine 3 (blk (rfBody (blk (spine 1 (lft (spine 11 (Try.f5.body.getD .skip)))))))))) Q
      { tmps := #[v0, v1, v2, Value.pointer (some ⟨gB, 0, none⟩), v4, v5, Value.pointer (some ⟨gB + 1 + 1 + 1, 0, none⟩), v7, v8, v9, v10, v11, v12, Value.pointer (some ⟨X + 1, 0, none⟩), v14, Value.int IntKind.i64 j, v16, v17, v18, v19, v20, v21, v22, v23, v24, v25, v26, v27, v28, v29, v30, v31, v32, v33, v34, v35, v36, v37, v38, v39, v40, v41, v42, v43, v44, v45, v46, v47, v48, v49, v50, v51, v52, v53, v54, v55, v56, v57, v58, v59, v60, v61, v62, v63, v64, v65, v66, v67, v68, v69, v70, v71, v72, v73, v74, v75, v76, v77, v78, v79, v80, v81, v82, v83, v84, v85, v86, v87, v88, v89, v90, v91, v92, v93, v94, v95, v96, v97, v98, v99, v100, v101, v102, v103, v104, v105, v106, v107, v108], defers := [] } W := by
  obtain ⟨i0, hi, hz0, hz1, hz2⟩ := info_parts info
  obtain ⟨u1, u2, xs, ys, h1, h2, h3, h4, h5⟩ := hxy
  have hEE : E * E ≤ 4194304 * 4194304 := Nat.mul_le_mul hE hE
  have hc := h2.cell
  have w1e : wrap64 (3 * (E : Int)) = 3 * (E : Int) := by simp [wrap64]; omega
  have w2e : wrap64 (3 * (E : Int) + 3) = 3 * (E : Int) + 3 := by simp [wrap64]; omega
  simp only [Try.f5, Option.getD, spine, lft, blk, rfBody]
  by_cases hgt : 3 * E + 3 < q + 1
  · have t1 : decide (3 * (E : Int) + 3 < (q : Int) + 1) = true := decide_eq_true (by omega)
    have t2 : decide (3 < (E : Int)) = true := decide_eq_true (by
      rcases Nat.lt_or_ge 3 E with h | h
      · omega
      · have := Nat.mul_le_mul_right E h
        omega)
    gi_wp2_with (gi_at_builtin; refine wpListIn_append_own_at _ rfl _ _ 25 rfl (X + 2) 3 i0 (.int .i64 0) 1 8 Try.underlying25 hi hz0 hz1 hz2 rfl (by decide) _ _ _ rfl (h4.alloc _) ⟨W.heap.size, 0, none⟩ 1 1 [.int .i64 j] rfl rfl (cell_one_new _ _ _) (by simp [Value.oneCell']) (by unfold maxLen; omega) (by omega) (by simp; omega) ?_; intro v' w2 hown' hgrow _ hat; obtain ⟨g', cap', rfl⟩ := ownsRow_succ hown'; obtain ⟨k1, k2, k3, k4, k5⟩ := XY.put h2 h1 h4 h3 (fun b hb hc => h5 b hc hb) (by omega) (by omega) (by omega) (by omega) hown' hgrow hat; have hc1 := k1.cell; have hf1 := k1.frozen; have hc2 := k2.cell; obtain ⟨x0, x1, -⟩ := pair_cells ((k5.block gB (by omega) (by omega)).trans hg); have hR2 := Boxed.cell ((k5.block (gB + 1 + 1 + 1) (by omega) (by omega)).trans hR); have hR3 := Boxed.frozen ((k5.block (gB + 1 + 1 + 1) (by omega) (by omega)).trans hR))
    have hRb : Boxed _ (gB + 1 + 1 + 1) 4 (.bool false) := (k5.block (gB + 1 + 1 + 1) (by omega) (by omega)).trans hR
    exact hr _ _ (hRb.set (.bool true)) (k4.trans (KeepsOthers.setCell _ _ _)) (Wrote.setCell ⟨k5.os, k5.tape, k5.output, k5.size, fun k hk hn => k5.block k hk (fun h => hn (h.elim .inl (fun h => .inr (.inl h))))⟩ (b := gB + 1 + 1 + 1) (i := 0) (.inr (.inr rfl)) _)
  · have t1 : decide (3 * (E : Int) + 3 < (q : Int) + 1) = false := decide_eq_false (by omega)
    gi_wp2_with (gi_at_builtin; refine wpListIn_append_own_at _ rfl _ _ 25 rfl (X + 2) 3 i0 (.int .i64 0) 1 8 Try.underlying25 hi hz0 hz1 hz2 rfl (by decide) _ _ _ rfl (h4.alloc _) ⟨W.heap.size, 0, none⟩ 1 1 [.int .i64 j] rfl rfl (cell_one_new _ _ _) (by simp [Value.oneCell']) (by unfold maxLen; omega) (by omega) (by simp; omega) ?_; intro v' w2 hown' hgrow _ hat; obtain ⟨g', cap', rfl⟩ := ownsRow_succ hown'; obtain ⟨k1, k2, k3, k4, k5⟩ := XY.put h2 h1 h4 h3 (fun b hb hc => h5 b hc hb) (by omega) (by omega) (by omega) (by omega) hown' hgrow hat; have hc1 := k1.cell; have hf1 := k1.frozen; have hc2 := k2.cell; obtain ⟨x0, x1, -⟩ := pair_cells ((k5.block gB (by omega) (by omega)).trans hg))
    exact hn _ _ k3.swap k4 k5

end lawIter
end Go.Proofs.Ytlnkcebfnamdcaa
