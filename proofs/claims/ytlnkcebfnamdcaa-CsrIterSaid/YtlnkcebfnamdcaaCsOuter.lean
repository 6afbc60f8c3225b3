/-
  Proved: a round of the second loop of the law CsrIter.
-/
import Derived.Test.YtlnkcebfnamdcaaCsInner
import Derived.Test.YtlnkcebfnamdcaaCsAwake
import Derived.Test.YtlnkcebfnamdcaaCsRV
import Derived.Test.YtlnkcebfnamdcaaCsQuiet
import Derived.Test.YtlnkcebfnamdcaaSiGin
import Derived.Maps.OwnIn
import Derived.Laws.EntriesVeiled
namespace Go.Proofs.Ytlnkcebfnamdcaa
open Go.ChangeShapes Go.WideShapes Go.ChangeAt Go.RowKit Go.Shelf
namespace lawIter

attribute [local go_sem] Oper.semAt_some



/-- A frame at which a round of the innermost loop goes as it should. -/
def InnerOk (gB X : Nat) (_ : Int) (a : Act) : Prop := ∀ (l l2 n : Nat) (Q : Exit → Act → World → Prop) (m : Nat) (ao : Option Addr) (ca E p q : Nat) (W : World),
    XY (X + 2) X (X + 1) p q W → X + 2 ≤ W.heap.size → gB + 4 ≤ X → W.heap[gB]? = some (.cells #[.int .i64 m, .slice ao E ca] 24 (0, 0)) → Boxed W (gB + 1 + 1 + 1) 4 (.bool false) → E ≤ 4194304 → q + 1 ≤ E * E →
    (∀ a' W', XY (X + 2) X (X + 1) p (q + 1) W' → KeepsOthers W W' → Wrote (fun b => b = X + 1 ∨ X + 2 ≤ b) W W' → Q .normal a' W') →
    (∀ a' W', Boxed W' (gB + 1 + 1 + 1) 4 (.bool true) → KeepsOthers W W' → Wrote (fun b => b = X + 1 ∨ X + 2 ≤ b ∨ b = gB + 1 + 1 + 1) W W' → Q .ret a' W') →
    Code.wpIn ((Fence.wide.inRound l).inRound l2) n Try.prog (rfBody (blk (spine 3 (blk (rfBody (blk (spine 1 (lft (spine 11 (Try.f5.body.getD .skip)))))))))) Q a W

theorem innerOk {v0 v1 v2 v4 v5 v7 v8 v9 v10 v11 v12 v14 v16 v17 v18 v19 v20 v21 v22 v23 v24 v25 v26 v27 v28 v29 v30 v31 v32 v33 v34 v35 v36 v37 v38 v39 v40 v41 v42 v43 v44 v45 v46 v47 v48 v49 v50 v51 v52 v53 v54 v55 v56 v57 v58 v59 v60 v61 v62 v63 v64 v65 v66 v67 v68 v69 v70 v71 v72 v73 v74 v75 v76 v77 v78 v79 v80 v81 v82 v83 v84 v85 v86 v87 v88 v89 v90 v91 v92 v93 v94 v95 v96 v97 v98 v99 v100 v101 v102 v103 v104 v105 v106 v107 v108 : Value} {gB X : Nat} {j : Int} : InnerOk gB X j { tmps := #[v0, v1, v2, Value.pointer (some ⟨gB, 0, none⟩), v4, v5, Value.pointer (some ⟨gB + 1 + 1 + 1, 0, none⟩), v7, v8, v9, v10, v11, v12, Value.pointer (some ⟨X + 1, 0, none⟩), v14, Value.int IntKind.i64 j, v16, v17, v18, v19, v20, v21, v22, v23, v24, v25, v26, v27, v28, v29, v30, v31, v32, v33, v34, v35, v36, v37, v38, v39, v40, v41, v42, v43, v44, v45, v46, v47, v48, v49, v50, v51, v52, v53, v54, v55, v56, v57, v58, v59, v60, v61, v62, v63, v64, v65, v66, v67, v68, v69, v70, v71, v72, v73, v74, v75, v76, v77, v78, v79, v80, v81, v82, v83, v84, v85, v86, v87, v88, v89, v90, v91, v92, v93, v94, v95, v96, v97, v98, v99, v100, v101, v102, v103, v104, v105, v106, v107, v108], defers := [] } :=
  fun _ _ _ _ _ _ _ _ _ _ _ h1 h2 h3 h4 h5 h6 h7 h8 h9 => inner h1 h2 h3 h4 h5 h6 h7 h8 h9

set_option maxRecDepth 100000 in
set_option maxHeartbeats 4000000 in
/-- A round of the second loop. -/
theorem outer {v0 v1 v2 v5 v8 v10 v11 v15 v16 v17 v18 v19 v20 v21 v22 v23 v24 v25 v26 v27 v28 v29 v30 v31 v32 v33 v34 v35 v36 v37 v38 v39 v40 v41 v42 v43 v44 v45 v46 v47 v48 v49 v50 v51 v52 v53 v54 v55 v56 v57 v58 v59 v60 v61 v62 v63 v64 v65 v66 v67 v68 v69 v70 v71 v72 v73 v74 v75 v76 v77 v78 v79 v80 v81 v82 v83 v84 v85 v86 v87 v88 v89 v90 v91 v92 v93 v94 v95 v96 v97 v98 v99 v100 v101 v102 v103 v104 v105 v106 v107 v108 : Value} {l : Nat} {r : Loop} {Q : Exit → Act → World → Prop} {m : Nat} {ao : Option Addr} {ca E L p q pA gB aB iB Bs X : Nat} {at4 : Option Addr} {c4 : Nat} {Z : List Int} {j x : Int} {w2 W : World}
    (hxy : XY (X + 2) X (X + 1) p q W) (hW : X + 2 ≤ W.heap.size) (hlX : X + 2 ≤ l) (hl : W.heap[l]? = some (.loop r)) (hgX : gB + 4 ≤ X) (haX : aB < X) (hiX : iB < X) (hBX : Bs < X) (h2X : w2.heap.size ≤ X)
    (hg : W.heap[gB]? = some (.cells #[.int .i64 m, .slice ao E ca] 24 (0, 0))) (hR : Boxed W (gB + 1 + 1 + 1) 4 (.bool false)) (hV : Boxed W (gB + 1) 3 (.int .i64 x))
    (hA : Boxed W aB 27 (.pointer (some ⟨pA, 0, none⟩))) (hI : Boxed W iB 46 (.func (.func 36) #[] #[.pointer (some ⟨Bs, 0, none⟩)])) (hS : Boxed W Bs 25 (.slice at4 Z.length c4))
    (hints : IntsAt w2 at4 Z) (hbW : Below w2.heap.size w2 W) (hE : E ≤ 4194304) (hL : L = Z.length) (hLE : L ≤ E) (hp : p + 1 ≤ L) (hq : q + L ≤ E * E)
    (hdeg : ∀ V, Below w2.heap.size w2 V → Calls Try.prog 21 #[.pointer (some ⟨pA, 0, none⟩), .int .i64 x] V fun e V' => e = .returned (.int .i64 (L : Int)) ∧ V' = V)
    (hn : ∀ a' W', XY (X + 2) X (X + 1) (p + 1) (q + L) W' → KeepsFrom (X + 2) W W' → Wrote (fun b => X ≤ b) W W' → Q .normal a' W')
    (hr : ∀ a' W', Boxed W' (gB + 1 + 1 + 1) 4 (.bool true) → KeepsFrom (X + 2) W W' → Wrote (fun b => X ≤ b ∨ b = gB + 1 + 1 + 1) W W' → Q .ret a' W') :
    Code.wpIn (Fence.wide.inRound l) (9 - 1 - 1) Try.prog (rfBody (blk (spine 1 (lft (spine 11 (Try.f5.body.getD .skip)))))) Q { tmps := #[v0, v1, v2, Value.pointer (some ⟨gB, 0, none⟩), Value.pointer (some ⟨gB + 1, 0, none⟩), v5, Value.pointer (some ⟨gB + 1 + 1 + 1, 0, none⟩), Value.pointer (some ⟨aB, 0, none⟩), v8, Value.pointer (some ⟨iB, 0, none⟩), v10, v11, Value.pointer (some ⟨X, 0, none⟩), Value.pointer (some ⟨X + 1, 0, none⟩), Value.int IntKind.i64 j, v15, v16, v17, v18, v19, v20, v21, v22, v23, v24, v25, v26, v27, v28, v29, v30, v31, v32, v33, v34, v35, v36, v37, v38, v39, v40, v41, v42, v43, v44, v45, v46, v47, v48, v49, v50, v51, v52, v53, v54, v55, v56, v57, v58, v59, v60, v61, v62, v63, v64, v65, v66, v67, v68, v69, v70, v71, v72, v73, v74, v75, v76, v77, v78, v79, v80, v81, v82, v83, v84, v85, v86, v87, v88, v89, v90, v91, v92, v93, v94, v95, v96, v97, v98, v99, v100, v101, v102, v103, v104, v105, v106, v107, v108], defers := [] } W := by
  obtain ⟨i0, hi, hz0, hz1, hz2⟩ := info_parts info
  obtain ⟨u1, u2, xs, ys, h1, h2, h3, h4, h5⟩ := hxy
  have hc := h1.cell
  have h7 : 1 ≤ 9 - 1 - 1 := by omega
  have t1 : decide ((L : Int) < (p : Int) + 1) = false := decide_eq_false (by omega)
  have HDEG := Nu.hid hdeg
  clear hdeg
  simp only [Try.f5, Option.getD, spine, lft, blk, rfBody]
  gi_wp2_with (gi_at_builtin; refine wpListIn_append_own_at _ rfl _ _ 25 rfl (X + 2) 3 i0 (.int .i64 0) 1 8 Try.underlying25 hi hz0 hz1 hz2 rfl (by decide) _ _ _ rfl (h3.alloc _) ⟨W.heap.size, 0, none⟩ 1 1 [.int .i64 j] rfl rfl (cell_one_new _ _ _) (by simp [Value.oneCell']) (by unfold maxLen; omega) (by omega) (by simp; omega) ?_; intro v' w2' hown' hgrow _ hat; obtain ⟨g', cap', rfl⟩ := ownsRow_succ hown'; obtain ⟨k1, k2, k3, k4, k5⟩ := XY.put h1 h2 h3 h4 h5 (by omega) (by omega) (by omega) (by omega) hown' hgrow hat; have hc1 := k1.cell; have hf1 := k1.frozen; have hc2 := k2.cell; have cA1 := Boxed.cell ((k5.block aB (by omega) (by omega)).trans hA); have cV1 := Boxed.cell ((k5.block (gB + 1) (by omega) (by omega)).trans hV))
  have HBW1 := Nu.hid (hbW.trans (k5.below hbW.size (fun b hb => by omega)))
  refine wpIn_region_quiet_lit (by kernel_rfl) (by kernel_rfl) (by kernel_rfl) ?_
  repeat (go_big_quiet_step ((go_at_call 21; exact Calls.quiet_of_same (HDEG.out _ (below_drewN HBW1.out _)))))
  refine wpQuiet_nil ?_
  intro W2 hw'
  obtain ⟨nq, hw2⟩ := hw'
  have x2 : XY (X + 2) X (X + 1) (p + 1) q W2 := by rw [hw2]; exact k3
  have wr2 : Wrote (fun b => X ≤ b) W W2 := by rw [hw2]; exact (k5.mono (fun b _ hb => by omega)).drewN _
  have kf2 : KeepsFrom (X + 2) W W2 := by rw [hw2]; exact (k4.trans (KeepsOthers.of_drewN _ _)).from _
  have cI2 := Boxed.cell ((wr2.block iB (by omega) (by omega)).trans hI)
  have hl2 : W2.heap[l]? = some (.loop r) := kf2.same l _ hlX hl rfl
  have bs2 : Boxed W2 Bs 25 (.slice at4 Z.length c4) := (wr2.block Bs (by omega) (by omega)).trans hS
  have hb2 : Below w2.heap.size w2 W2 := hbW.trans (wr2.below hbW.size (fun b hb => by omega))
  have hund := hints.under hb2
  have hsz2 := wr2.size
  have hzl : Z.length ≤ 8388608 := by omega
  clear hw2
  gi_wp2
  refine wpIn_rangeFunc_ownN (l₀ := l) (r₀ := r) rfl hl2 h7 (gf := 36) (lb := #[.pointer (some ⟨Bs, 0, none⟩)]) rfl trivial (enters_of Try.func36 (by kernel_rfl) rfl)
    ((citer_stops Fence.wide (9 - 1 - 1 - 1) trivial rfl (by omega) Bs w2.heap.size c4 at4 Z hzl W2 (by omega) bs2 hund).inRound l) kpW_t (kpW_b (by omega) (by omega)) (Below.refl _ _) (fun _ => rfl)
    (fun pre W' => XY (X + 2) X (X + 1) (p + 1) (q + pre.length) W' ∧ Wrote (fun b => X ≤ b) W W' ∧ KeepsFrom (X + 2) W W')
    (fun k _ W' => k = .ret ∧ Boxed W' (gB + 1 + 1 + 1) 4 (.bool true) ∧ Wrote (fun b => X ≤ b ∨ b = gB + 1 + 1 + 1) W W' ∧ KeepsFrom (X + 2) W W')
    ?own ?ownx ?start (fun y a'' _ => InnerOk gB X y a'') (fun _ _ _ _ _ _ hs _ _ => hs) ?assign ?body ?done ?stop
  case own =>
    rintro pre A A' row ⟨e1, e2, e3⟩ hg' hr'
    exact ⟨XY.own e1 hg' (fun r e => (hr' r e).2), wrote_own e2 hg' (fun r e => by have := (hr' r e).1; omega), ownFrom_keepsFrom (β := Unit) hsz2 () A A' row e3 hg' hr'⟩
  case ownx =>
    rintro k pre A A' row ⟨e0, e1, e2, e3⟩ hg' hr'
    exact ⟨e0, e1.kept hg' (fun e => by have := (hr' _ e.symm).1; omega), wrote_own e2 hg' (fun r e => by have := (hr' r e).1; omega), ownFrom_keepsFrom (β := Unit) hsz2 () A A' row e3 hg' hr'⟩
  case start => exact ⟨x2, wr2, kf2⟩
  case assign =>
    rintro l2 pre y A K hi hK
    gi_wp2
    exact hK _ _ (KeepsFrom.refl _ _) (KpW.refl _ _ _) hi innerOk
  case body =>
    rintro l2 pre y a'' A _ _ ⟨e1, e2, e3⟩ hax hlt
    have hsA := e2.size
    refine hax l l2 _ _ m ao ca E (p + 1) (q + pre.length) A e1 (by omega) hgX ((e2.block gB (by omega) (by omega)).trans hg) ((e2.block _ (by omega) (by omega)).trans hR) hE (by omega) ?_ ?_
    · intro a' A' f1 f2 f3
      exact ⟨f2.from _, ⟨f3.below (by omega) (fun b hb => by omega), f3.block Bs (by omega) (by omega)⟩, by rw [List.length_append]; exact f1, e2.trans (f3.mono (fun b _ hb => by omega)), e3.trans (f2.from _)⟩
    · intro a' A' f1 f2 f3
      exact ⟨f2.from _, rfl, f1, (e2.mono (fun b _ hb => .inl hb)).trans (f3.mono (fun b _ hb => by omega)), e3.trans (f2.from _)⟩
  case done =>
    rintro zs A hzs ⟨e1, e2, e3⟩
    rw [hzs, ← hL] at e1
    gi_wp2
    exact hn _ _ e1 e3 e2
  case stop =>
    rintro k pre A _ ⟨rfl, e1, e2, e3⟩
    gi_wp2
    exact hr _ _ e1 e3 e2

end lawIter
end Go.Proofs.Ytlnkcebfnamdcaa
