/-
  Proved: of the law CsrIter, what follows its first loop.
-/
import Derived.Test.YtlnkcebfnamdcaaCsOuter
import Derived.Test.YtlnkcebfnamdcaaCsAwake
import Derived.Test.YtlnkcebfnamdcaaCsRV
import Derived.Test.YtlnkcebfnamdcaaCsQuiet
import Derived.Test.YtlnkcebfnamdcaaSiGin
import Derived.Maps.OwnIn
import Derived.Laws.EntriesVeiled
namespace Go.Proofs.Ytlnkcebfnamdcaa
open Go.ChangeShapes Go.WideShapes Go.ChangeAt Go.RowKit Go.Shelf
namespace lawIter

attribute [local go_sem] Oper.semAt_some



/-- A frame at which a round of the second loop goes as it should. -/
def OuterOk (m : Nat) (ao : Option Addr) (ca E L pA gB aB iB Bs X : Nat) (at4 : Option Addr) (c4 : Nat) (Z : List Int) (x : Int) (w2 : World) (a : Act) : Prop := ∀ (l : Nat) (r : Loop) (Q : Exit → Act → World → Prop) (p q : Nat) (W : World),
    (XY (X + 2) X (X + 1) p q W) →
    (X + 2 ≤ W.heap.size) →
    (X + 2 ≤ l) →
    (W.heap[l]? = some (.loop r)) →
    (gB + 4 ≤ X) →
    (aB < X) →
    (iB < X) →
    (Bs < X) →
    (w2.heap.size ≤ X) →
    (W.heap[gB]? = some (.cells #[.int .i64 m, .slice ao E ca] 24 (0, 0))) →
    (Boxed W (gB + 1 + 1 + 1) 4 (.bool false)) →
    (Boxed W (gB + 1) 3 (.int .i64 x)) →
    (Boxed W aB 27 (.pointer (some ⟨pA, 0, none⟩))) →
    (Boxed W iB 46 (.func (.func 36) #[] #[.pointer (some ⟨Bs, 0, none⟩)])) →
    (Boxed W Bs 25 (.slice at4 Z.length c4)) →
    (IntsAt w2 at4 Z) →
    (Below w2.heap.size w2 W) →
    (E ≤ 4194304) →
    (L = Z.length) →
    (L ≤ E) →
    (p + 1 ≤ L) →
    (q + L ≤ E * E) →
    (∀ V, Below w2.heap.size w2 V → Calls Try.prog 21 #[.pointer (some ⟨pA, 0, none⟩), .int .i64 x] V fun e V' => e = .returned (.int .i64 (L : Int)) ∧ V' = V) →
    (∀ a' W', XY (X + 2) X (X + 1) (p + 1) (q + L) W' → KeepsFrom (X + 2) W W' → Wrote (fun b => X ≤ b) W W' → Q .normal a' W') →
    (∀ a' W', Boxed W' (gB + 1 + 1 + 1) 4 (.bool true) → KeepsFrom (X + 2) W W' → Wrote (fun b => X ≤ b ∨ b = gB + 1 + 1 + 1) W W' → Q .ret a' W') →
    Code.wpIn (Fence.wide.inRound l) (9 - 1 - 1) Try.prog (rfBody (blk (spine 1 (lft (spine 11 (Try.f5.body.getD .skip)))))) Q a W

theorem outerOk {v0 v1 v2 v5 v8 v10 v11 v15 v16 v17 v18 v19 v20 v21 v22 v23 v24 v25 v26 v27 v28 v29 v30 v31 v32 v33 v34 v35 v36 v37 v38 v39 v40 v41 v42 v43 v44 v45 v46 v47 v48 v49 v50 v51 v52 v53 v54 v55 v56 v57 v58 v59 v60 v61 v62 v63 v64 v65 v66 v67 v68 v69 v70 v71 v72 v73 v74 v75 v76 v77 v78 v79 v80 v81 v82 v83 v84 v85 v86 v87 v88 v89 v90 v91 v92 v93 v94 v95 v96 v97 v98 v99 v100 v101 v102 v103 v104 v105 v106 v107 v108 : Value} {m : Nat} {ao : Option Addr} {ca E L pA gB aB iB Bs X : Nat} {at4 : Option Addr} {c4 : Nat} {Z : List Int} {j x : Int} {w2 : World} : OuterOk m ao ca E L pA gB aB iB Bs X at4 c4 Z x w2 { tmps := #[v0, v1, v2, Value.pointer (some ⟨gB, 0, none⟩), Value.pointer (some ⟨gB + 1, 0, none⟩), v5, Value.pointer (some ⟨gB + 1 + 1 + 1, 0, none⟩), Value.pointer (some ⟨aB, 0, none⟩), v8, Value.pointer (some ⟨iB, 0, none⟩), v10, v11, Value.pointer (some ⟨X, 0, none⟩), Value.pointer (some ⟨X + 1, 0, none⟩), Value.int IntKind.i64 j, v15, v16, v17, v18, v19, v20, v21, v22, v23, v24, v25, v26, v27, v28, v29, v30, v31, v32, v33, v34, v35, v36, v37, v38, v39, v40, v41, v42, v43, v44, v45, v46, v47, v48, v49, v50, v51, v52, v53, v54, v55, v56, v57, v58, v59, v60, v61, v62, v63, v64, v65, v66, v67, v68, v69, v70, v71, v72, v73, v74, v75, v76, v77, v78, v79, v80, v81, v82, v83, v84, v85, v86, v87, v88, v89, v90, v91, v92, v93, v94, v95, v96, v97, v98, v99, v100, v101, v102, v103, v104, v105, v106, v107, v108], defers := [] } :=
  fun _ _ _ _ _ _ h0 h1 h2 h3 h4 h5 h6 h7 h8 h9 h10 h11 h12 h13 h14 h15 h16 h17 h18 h19 h20 h21 h22 h23 h24 => outer h0 h1 h2 h3 h4 h5 h6 h7 h8 h9 h10 h11 h12 h13 h14 h15 h16 h17 h18 h19 h20 h21 h22 h23 h24

theorem wrap_small (k : Nat) (h : k ≤ 4194304 * 4194304) : IntKind.i64.wrap (k : Int) = (k : Int) := by
  simp [IntKind.wrap, IntKind.bits, IntKind.signed]
  omega

theorem row_slice {W : World} {base p : Nat} {u : Value} {xs : List Value} (h : W.ownsRow base 3 1 u p xs) : ∃ ad cap, u = .slice ad p cap := by
  rcases h.2 with ⟨rfl, e⟩ | ⟨g, cap, cur, e, _, _, _⟩
  · first | (subst e; exact ⟨_, _, rfl⟩) | (rw [e.1]; exact ⟨_, _, rfl⟩)
  · exact ⟨_, _, e⟩

set_option maxRecDepth 100000 in
set_option maxHeartbeats 4000000 in
/-- From the second loop on. -/
theorem rest2 (m : Nat) (ao : Option Addr) (ca : Nat) (es : List (Int × Int)) (x c z : Int) (w w2 w4 : World) (p Bs : Nat) (at4 : Option Addr) (c4 : Nat) (Z : List Int) (L D : Nat) (kk : Int) (W : World) (X : Nat) (v47 v48 v49 v50 v51 v52 v53 v54 v55 v56 v57 : Value)
    (h : Ready m ao ca es x c w w2 w4 p Bs at4 c4 Z L D kk W) (hD : D < X) (hs : W.heap.size = X + 2) (hx : Boxed W X 25 (.slice none 0 0)) (hy : Boxed W (X + 1) 25 (.slice none 0 0)) :
    Code.wp Try.prog (spine 11 (Try.f5.body.getD .skip)) (bodyPostM Fence.wide 9 Try.prog Try.f5 fun e w' => e = .returned (.bool true) ∧ Below w.heap.size w w')
      { tmps := #[Value.agg #[Value.int IntKind.i64 (m : Int), Value.slice ao es.length ca], Value.int IntKind.i64 x, Value.int IntKind.i64 c, Value.pointer (some ⟨w.heap.size, 0, none⟩), Value.pointer (some ⟨w.heap.size + 1, 0, none⟩), Value.pointer (some ⟨w.heap.size + 1 + 1, 0, none⟩), Value.pointer (some ⟨w.heap.size + 1 + 1 + 1, 0, none⟩), Value.pointer (some ⟨w2.heap.size, 0, none⟩), Value.int IntKind.i64 z, Value.pointer (some ⟨w4.heap.size, 0, none⟩), Value.pointer (some ⟨w4.heap.size + 1, 0, none⟩), Value.int IntKind.i64 kk, Value.pointer (some ⟨X, 0, none⟩), Value.pointer (some ⟨X + 1, 0, none⟩), undef, undef, Value.bool true, Value.bool false, Value.tuple #[Value.pointer (some ⟨p, 0, none⟩), Value.int IntKind.i64 z], Value.agg #[Value.int IntKind.i64 (m : Int), Value.slice ao es.length ca], Value.tuple #[Value.pointer (some ⟨p, 0, none⟩), Value.int IntKind.i64 z], Value.pointer (some ⟨p, 0, none⟩), Value.int IntKind.i64 z, Value.pointer (some ⟨p, 0, none⟩), Value.bool false, undef, undef, undef, Value.pointer (some ⟨p, 0, none⟩), Value.int IntKind.i64 x, Value.func (Fn.func 36) #[] #[Value.pointer (some ⟨Bs, 0, none⟩)], Value.func (Fn.func 36) #[] #[Value.pointer (some ⟨Bs, 0, none⟩)], Value.bool false, Value.func (Fn.func 36) #[] #[Value.pointer (some ⟨Bs, 0, none⟩)], undef, undef, undef, undef, undef, undef, undef, undef, undef, undef, undef, undef, undef, v47, v48, v49, v50, v51, v52, v53, v54, v55, v56, v57, undef, undef, undef, undef, undef, undef, undef, undef, undef, undef, undef, undef, undef, undef, undef, undef, undef, undef, undef, undef, undef, undef, undef, undef, undef, undef, undef, undef, undef, undef, undef, undef, undef, undef, undef, undef, undef, undef, undef, undef, undef, undef, undef, undef, undef, undef, undef, undef, undef, undef, undef], defers := [{ target := .collected D, args := #[] }] } W := by
  obtain ⟨hs1, hs2, hs3, hs4⟩ := h.sizes
  obtain ⟨hf1, hf2, hf3⟩ := h.few
  have cit := h.bi.cell
  have hdeg : ∀ V, Below w2.heap.size w2 V → Calls Try.prog 21 #[.pointer (some ⟨p, 0, none⟩), .int .i64 x] V fun e V' => e = .returned (.int .i64 (L : Int)) ∧ V' = V := fun V hb => by
    have := degree_any _ m es x V (h.adj.later hb)
    rw [h.deg] at this
    exact this
  have hsz := h.below.size
  have hund := h.ints.under h.below
  have hzl : Z.length ≤ 8388608 := by omega
  have hxy : XY (X + 2) X (X + 1) 0 0 W := ⟨_, _, [], [], hx, hy, World.ownsRow_nil _ _ _ _, World.ownsRow_nil _ _ _ _, fun b hb => by simp [Value.ownBlock] at hb⟩
  have HDEG := Nu.hid hdeg
  have H := Nu.hid h
  have HXY := Nu.hid hxy
  have HUND := Nu.hid hund
  obtain ⟨QQ, hQQ⟩ : ∃ QQ, (bodyPostM Fence.wide 9 Try.prog Try.f5 fun e w' => e = .returned (.bool true) ∧ Below w.heap.size w w') = QQ := ⟨_, rfl⟩
  rw [hQQ]
  have HQQ := Nu.hid hQQ
  clear hQQ
  have fin : ∀ (tmps : Array Value) (D2 : Nat) (A : World), tmps[6]? = some (.pointer (some ⟨w.heap.size + 1 + 1 + 1, 0, none⟩)) → X + 2 ≤ D2 → Boxed A (w.heap.size + 1 + 1 + 1) 4 (.bool true) → Wrote (fun b => X ≤ b ∨ b = w.heap.size + 1 + 1 + 1) W A → A.heap[D2]? = some (.deferred (some [])) →
      QQ .ret { tmps := tmps, defers := [{ target := .collected D2, args := #[] }, { target := .collected D, args := #[] }] } A := fun tmps D2 A ht hD2 e1 e2 hm2 => by
    have hm1 : A.heap[D]? = some (.deferred (some [])) := (e2.block D (by omega) (by omega)).trans H.out.mark
    have hm1' : (A.putObj D2 (.deferred none)).heap[D]? = some (.deferred (some [])) := (World.putObj_heap_other (by omega)).trans hm1
    have r1 : Boxed ((A.putObj D2 (.deferred none)).putObj D (.deferred none)) (w.heap.size + 1 + 1 + 1) 4 (.bool true) := (World.putObj_heap_other (by omega)).trans ((World.putObj_heap_other (by omega)).trans e1)
    have c1 := r1.cell
    have hb : Below w.heap.size w A := H.out.base.trans ((H.out.below.mono H.out.base.size).trans (e2.below (by omega) (fun b hb => by omega)))
    rw [← HQQ.out]
    refine ⟨by simp, .inl ⟨_, _, rfl, run_takeDeferred hm2, by simp, .inl ⟨_, _, rfl, run_takeDeferred hm1', ?_⟩⟩⟩
    refine ⟨.bool true, ?_, rfl, (hb.trans (belowK_b (w := w) (Nat.le_refl _) A D2 _ _ (by omega) hm2 rfl rfl)).trans (belowK_b (w := w) (Nat.le_refl _) _ D _ _ (by omega) hm1' rfl rfl)⟩
    simp [results, Try.results5, go_sem, c1, ht]
  have FIN := Nu.hid fin
  clear fin
  simp only [Try.f5, Option.getD, spine]
  clear h hdeg hx hy hxy hund
  go_wp2
  rename_i K hK
  refine (wpIn_wide (n := 9)).1 ?_
  refine wpIn_rangeFunc_ownH rfl (by omega) (gf := 36) (lb := #[.pointer (some ⟨Bs, 0, none⟩)]) rfl trivial (enters_of Try.func36 (by kernel_rfl) rfl)
    (citer_stops Fence.wide (9 - 1) trivial rfl (by omega) Bs w2.heap.size c4 at4 Z hzl W (by omega) H.out.bs HUND.out) kpW_t (kpW_b (by omega) (by omega)) (Below.refl _ _) (fun _ => rfl)
    (fun pre W' => XY (X + 2) X (X + 1) pre.length (pre.length * L) W' ∧ Wrote (fun b => X ≤ b) W W')
    (fun k _ W' => k = .ret ∧ Boxed W' (w.heap.size + 1 + 1 + 1) 4 (.bool true) ∧ Wrote (fun b => X ≤ b ∨ b = w.heap.size + 1 + 1 + 1) W W')
    ?own ?ownx ?start (fun _ a'' _ => OuterOk m ao ca es.length L p w.heap.size w2.heap.size w4.heap.size Bs X at4 c4 Z x w2 a'') (fun _ _ _ _ _ _ hs _ _ => hs) ?assign ?body ?done ?stop
  case own =>
    rintro pre A A' row ⟨e1, e2⟩ hg' hr'
    exact ⟨XY.own e1 hg' (fun r e => (hr' r e).2), wrote_own e2 hg' (fun r e => (hr' r e).1)⟩
  case ownx =>
    rintro k pre A A' row ⟨e0, e1, e2⟩ hg' hr'
    exact ⟨e0, e1.kept hg' (fun e => by have := (hr' _ e.symm).1; omega), wrote_own e2 hg' (fun r e => (hr' r e).1)⟩
  case start => exact ⟨by simpa using HXY.out, Wrote.refl _ _⟩
  case assign =>
    rintro l2 pre y A K hi hK
    gi_wp2
    exact hK _ _ (KeepsFrom.refl _ _) (KpW.refl _ _ _) hi outerOk
  case body =>
    rintro l pre y a'' A hlX ⟨r, hr⟩ ⟨e1, e2⟩ hax hlt
    have hsA := e2.size
    have hpl : pre.length + 1 ≤ L := by omega
    have hq : pre.length * L + L ≤ es.length * es.length := Nat.le_trans (by rw [← Nat.succ_mul]; exact Nat.mul_le_mul_right L hpl) (Nat.mul_le_mul hf2 hf2)
    refine hax l r _ pre.length (pre.length * L) A e1 (by omega) (by omega) hr (by omega) (by omega) (by omega) (by omega) (by omega) ((e2.block _ (by omega) (by omega)).trans H.out.graph) ((e2.block _ (by omega) (by omega)).trans H.out.br) ((e2.block _ (by omega) (by omega)).trans H.out.bv) ((e2.block _ (by omega) (by omega)).trans H.out.ba) ((e2.block _ (by omega) (by omega)).trans H.out.bi) ((e2.block _ (by omega) (by omega)).trans H.out.bs) H.out.ints (H.out.below.trans (e2.below hsz (fun b hb => by omega))) hf1 hf3 hf2 hpl hq HDEG.out ?_ ?_
    · intro a' A' f1 f2 f3
      exact ⟨by rw [hs]; exact f2, ⟨f3.below (by omega) (fun b hb => by omega), f3.block Bs (by omega) (by omega)⟩, by rw [List.length_append, List.length_singleton, Nat.succ_mul]; exact f1, e2.trans f3⟩
    · intro a' A' f1 f2 f3
      exact ⟨by rw [hs]; exact f2, rfl, f1, (e2.mono (fun b _ hb => .inl hb)).trans f3⟩
  case done =>
    rintro D2 zs A hD2 hzs ⟨e1, e2⟩ hm2
    rw [hzs, ← hf3] at e1
    obtain ⟨LL, hLL⟩ : ∃ LL, LL = L * L := ⟨_, rfl⟩
    rw [← hLL] at e1
    have hLL2 : LL ≤ 4194304 * 4194304 := by rw [hLL]; exact Nat.mul_le_mul (Nat.le_trans hf2 hf1) (Nat.le_trans hf2 hf1)
    have hmul : wrap64 ((L : Int) * (L : Int)) = (LL : Int) := by
      have e : (L : Int) * (L : Int) = (LL : Int) := by rw [hLL]; simp
      rw [e]
      simp [wrap64]
      omega
    have hsA := e2.size
    have t1 : (kk == kk) = true := by simp
    have t2 : ((L : Int) == (L : Int)) = true := by simp
    have t3 : ((LL : Int) == (LL : Int)) = true := by simp
    obtain ⟨u1, u2, xs, ys, b1, b2, o1, o2, -⟩ := e1
    obtain ⟨ad1, cap1, rfl⟩ := row_slice o1
    obtain ⟨ad2, cap2, rfl⟩ := row_slice o2
    have cX := b1.cell
    have cY := b2.cell
    have bR : Boxed A (w.heap.size + 1 + 1 + 1) 4 (.bool false) := (e2.block _ (by omega) (by omega)).trans H.out.br
    have bK : Boxed A (w4.heap.size + 1) 3 (.int .i64 kk) := (e2.block _ (by omega) (by omega)).trans H.out.bk
    have bV : Boxed A (w.heap.size + 1) 3 (.int .i64 x) := (e2.block _ (by omega) (by omega)).trans H.out.bv
    have bA : Boxed A w2.heap.size 27 (.pointer (some ⟨p, 0, none⟩)) := (e2.block _ (by omega) (by omega)).trans H.out.ba
    have cK := bK.cell
    have cV := bV.cell
    have cA := bA.cell
    have hA : Below w2.heap.size w2 A := H.out.below.trans (e2.below hsz (fun b hb => by omega))
    have HA := Nu.hid hA
    clear hA
    refine hK _ _ ?_
    have hS : ∀ V, Below A.heap.size A V → V.cell? ⟨w4.heap.size + 1, 0, none⟩ = some (.int .i64 kk) ∧ V.cell? ⟨w.heap.size + 1, 0, none⟩ = some (.int .i64 x) ∧ V.cell? ⟨w2.heap.size, 0, none⟩ = some (.pointer (some ⟨p, 0, none⟩)) ∧ V.cell? ⟨X, 0, none⟩ = some (.slice ad1 L cap1) ∧ V.cell? ⟨X + 1, 0, none⟩ = some (.slice ad2 LL cap2) ∧ V.frozen? ⟨w.heap.size + 1 + 1 + 1, 0, none⟩ = false := fun V hb =>
      ⟨(hb.cell (p := ⟨w4.heap.size + 1, 0, none⟩) (by show w4.heap.size + 1 < A.heap.size; omega)).trans cK, (hb.cell (p := ⟨w.heap.size + 1, 0, none⟩) (by show w.heap.size + 1 < A.heap.size; omega)).trans cV, (hb.cell (p := ⟨w2.heap.size, 0, none⟩) (by show w2.heap.size < A.heap.size; omega)).trans cA, (hb.cell (p := ⟨X, 0, none⟩) (by show X < A.heap.size; omega)).trans cX, (hb.cell (p := ⟨X + 1, 0, none⟩) (by show X + 1 < A.heap.size; omega)).trans cY, Boxed.frozen ((hb.block (w.heap.size + 1 + 1 + 1) (by omega)).trans bR)⟩
    have hS2 : ∀ V u, Below A.heap.size A V → (V.setCell ⟨w.heap.size + 1 + 1 + 1, 0, none⟩ u).cell? ⟨w4.heap.size + 1, 0, none⟩ = some (.int .i64 kk) ∧ (V.setCell ⟨w.heap.size + 1 + 1 + 1, 0, none⟩ u).cell? ⟨w.heap.size + 1, 0, none⟩ = some (.int .i64 x) ∧ (V.setCell ⟨w.heap.size + 1 + 1 + 1, 0, none⟩ u).cell? ⟨w2.heap.size, 0, none⟩ = some (.pointer (some ⟨p, 0, none⟩)) ∧ (V.setCell ⟨w.heap.size + 1 + 1 + 1, 0, none⟩ u).cell? ⟨X, 0, none⟩ = some (.slice ad1 L cap1) ∧ (V.setCell ⟨w.heap.size + 1 + 1 + 1, 0, none⟩ u).cell? ⟨X + 1, 0, none⟩ = some (.slice ad2 LL cap2) ∧ (V.setCell ⟨w.heap.size + 1 + 1 + 1, 0, none⟩ u).frozen? ⟨w.heap.size + 1 + 1 + 1, 0, none⟩ = false := fun V u hb =>
      ⟨Boxed.cell (Boxed.other ((hb.block _ (by omega)).trans bK) (by omega) u), Boxed.cell (Boxed.other ((hb.block _ (by omega)).trans bV) (by omega) u), Boxed.cell (Boxed.other ((hb.block _ (by omega)).trans bA) (by omega) u), Boxed.cell (Boxed.other ((hb.block _ (by omega)).trans b1) (by omega) u), Boxed.cell (Boxed.other ((hb.block _ (by omega)).trans b2) (by omega) u), Boxed.frozen (Boxed.set u ((hb.block (w.heap.size + 1 + 1 + 1) (by omega)).trans bR))⟩
    have HS2 := Nu.hid hS2
    have HS := Nu.hid hS
    have hD : ∀ V, Below A.heap.size A V → Calls Try.prog 21 #[.pointer (some ⟨p, 0, none⟩), .int .i64 x] V fun e V' => e = .returned (.int .i64 (L : Int)) ∧ Below V.heap.size V V' := fun V hb => (HDEG.out V (HA.out.trans (hb.mono HA.out.size))).mono (fun e V' h => ⟨h.1, by rw [h.2]; exact Below.refl _ _⟩)
    have HD := Nu.hid hD
    have HE2 := Nu.hid e2
    have HM2 := Nu.hid hm2
    have HBR := Nu.hid bR
    have hmul2 : IntKind.i64.wrap ((L : Int) * (L : Int)) = (LL : Int) := by
      have e : (L : Int) * (L : Int) = (LL : Int) := by rw [hLL]; simp
      rw [e]
      exact wrap_small LL hLL2
    clear hS hD e2 hm2 hS2 hLL hf3 bK bV bA b1 b2
    have hbd : Below A.heap.size A A.drew := (Below.refl _ _).drew
    go_wp2_with fail
    go_region_held3 (fun V => V.cell? ⟨w4.heap.size + 1, 0, none⟩ = some (.int .i64 kk) ∧ V.cell? ⟨w.heap.size + 1, 0, none⟩ = some (.int .i64 x) ∧ V.cell? ⟨w2.heap.size, 0, none⟩ = some (.pointer (some ⟨p, 0, none⟩)) ∧ V.cell? ⟨X, 0, none⟩ = some (.slice ad1 L cap1) ∧ V.cell? ⟨X + 1, 0, none⟩ = some (.slice ad2 LL cap2) ∧ V.frozen? ⟨w.heap.size + 1 + 1 + 1, 0, none⟩ = false)
      (first | exact HS.out _ (by first | assumption | exact hbd) | exact HS2.out _ _ (by first | assumption | exact hbd))
      ((go_at_call 21; refine (HD.out _ (by first | assumption | exact hbd)).mono ?_; rintro r V1 ⟨rfl, hv1⟩; have hb1 : Below A.heap.size A V1 := Below.trans (by first | assumption | exact hbd) (hv1.mono (Below.size (by first | assumption | exact hbd))); have hR1 := Boxed.cell ((hb1.block (w.heap.size + 1 + 1 + 1) (by omega)).trans HBR.out)))
    all_goals
      go_wp2
      exact FIN.out _ _ _ rfl (by omega) (Boxed.set (.bool true) ((hb1.block (w.heap.size + 1 + 1 + 1) (by omega)).trans HBR.out)) (((HE2.out.mono (fun b _ hb => .inl hb)).later hb1).setCell (b := w.heap.size + 1 + 1 + 1) (i := 0) (.inr rfl) _) ((heap_setCell_other V1 ⟨w.heap.size + 1 + 1 + 1, 0, none⟩ D2 _ (by show D2 ≠ w.heap.size + 1 + 1 + 1; omega)).trans ((hb1.block D2 (lt_of_block HM2.out)).trans HM2.out))
  case stop =>
    rintro D2 k pre A hD2 _ ⟨rfl, e1, e2⟩ hm2
    gi_wp2
    exact FIN.out _ _ _ rfl (by omega) e1 e2 hm2

set_option maxRecDepth 100000 in
set_option maxHeartbeats 4000000 in
theorem rest (m : Nat) (ao : Option Addr) (ca : Nat) (es : List (Int × Int)) (x c z : Int) (w w2 w4 : World) (p Bs : Nat) (at4 : Option Addr) (c4 : Nat) (Z : List Int) (L D : Nat) (kk : Int) (W : World)
    (_ : (Lit.int .i64 x).wf = true) (_ : (Lit.int .i64 c).wf = true) (h : Ready m ao ca es x c w w2 w4 p Bs at4 c4 Z L D kk W) :
    Code.wp Try.prog (spine 8 (Try.f5.body.getD .skip)) (bodyPostM Fence.wide 9 Try.prog Try.f5 fun e w' => e = .returned (.bool true) ∧ Below w.heap.size w w')
      { tmps := #[Value.agg #[Value.int IntKind.i64 (m : Int), Value.slice ao es.length ca], Value.int IntKind.i64 x, Value.int IntKind.i64 c, Value.pointer (some ⟨w.heap.size, 0, none⟩), Value.pointer (some ⟨w.heap.size + 1, 0, none⟩), Value.pointer (some ⟨w.heap.size + 1 + 1, 0, none⟩), Value.pointer (some ⟨w.heap.size + 1 + 1 + 1, 0, none⟩), Value.pointer (some ⟨w2.heap.size, 0, none⟩), Value.int IntKind.i64 z, Value.pointer (some ⟨w4.heap.size, 0, none⟩), Value.pointer (some ⟨w4.heap.size + 1, 0, none⟩), undef, undef, undef, undef, undef, Value.bool true, Value.bool false, Value.tuple #[Value.pointer (some ⟨p, 0, none⟩), Value.int IntKind.i64 z], Value.agg #[Value.int IntKind.i64 (m : Int), Value.slice ao es.length ca], Value.tuple #[Value.pointer (some ⟨p, 0, none⟩), Value.int IntKind.i64 z], Value.pointer (some ⟨p, 0, none⟩), Value.int IntKind.i64 z, Value.pointer (some ⟨p, 0, none⟩), Value.bool false, undef, undef, undef, Value.pointer (some ⟨p, 0, none⟩), Value.int IntKind.i64 x, Value.func (Fn.func 36) #[] #[Value.pointer (some ⟨Bs, 0, none⟩)], Value.func (Fn.func 36) #[] #[Value.pointer (some ⟨Bs, 0, none⟩)], Value.bool false, Value.func (Fn.func 36) #[] #[Value.pointer (some ⟨Bs, 0, none⟩)], undef, undef, undef, undef, undef, undef, undef, undef, undef, undef, undef, undef, undef, undef, undef, undef, undef, undef, undef, undef, undef, undef, undef, undef, undef, undef, undef, undef, undef, undef, undef, undef, undef, undef, undef, undef, undef, undef, undef, undef, undef, undef, undef, undef, undef, undef, undef, undef, undef, undef, undef, undef, undef, undef, undef, undef, undef, undef, undef, undef, undef, undef, undef, undef, undef, undef, undef, undef, undef, undef, undef, undef, undef, undef, undef], defers := [{ target := .collected D, args := #[] }] } W := by
  obtain ⟨hs1, hs2, hs3, hs4⟩ := h.sizes
  have cv := h.bv.cell
  have cn := h.bn.cell
  have caa := h.ba.cell
  have hdeg : Calls Try.prog 21 #[.pointer (some ⟨p, 0, none⟩), .int .i64 x] W fun e V' => e = .returned (.int .i64 (L : Int)) ∧ V' = W := by
    have := degree_any _ m es x W (h.adj.later h.below)
    rw [h.deg] at this
    exact this
  have e : spine 8 (Try.f5.body.getD .skip) = .seq (lft (spine 8 (Try.f5.body.getD .skip))) (.seq (lft (spine 9 (Try.f5.body.getD .skip))) (.seq (lft (spine 10 (Try.f5.body.getD .skip))) (spine 11 (Try.f5.body.getD .skip)))) := by kernel_rfl
  rw [e]
  obtain ⟨T, hT⟩ : ∃ T, spine 11 (Try.f5.body.getD .skip) = T := ⟨_, rfl⟩
  rw [hT]
  have HT := Nu.hid hT
  have HDEG := Nu.hid hdeg
  obtain ⟨QQ, hQQ⟩ : ∃ QQ, (bodyPostM Fence.wide 9 Try.prog Try.f5 fun e w' => e = .returned (.bool true) ∧ Below w.heap.size w w') = QQ := ⟨_, rfl⟩
  rw [hQQ]
  have HQQ := Nu.hid hQQ
  clear hT hdeg e hQQ
  simp only [Try.f5, Option.getD, spine, lft]
  have hbx : Boxed ((W.alloc (.cells #[.slice none 0 0] 25)).alloc (.cells #[.slice none 0 0] 25)) W.heap.size 25 (.slice none 0 0) := (Boxed.new W _ _).alloc _
  have hby : Boxed ((W.alloc (.cells #[.slice none 0 0] 25)).alloc (.cells #[.slice none 0 0] 25)) (W.heap.size + 1) 25 (.slice none 0 0) := by
    have := Boxed.new (W.alloc (.cells #[.slice none 0 0] 25)) 25 (.slice none 0 0)
    rwa [World.size_alloc] at this
  have HBX := Nu.hid hbx
  have HBY := Nu.hid hby
  have HR := Nu.hid ((h.alloc (.cells #[.slice none 0 0] 25)).alloc (.cells #[.slice none 0 0] 25))
  have HD := Nu.hid (lt_of_block h.mark)
  have HW := Nu.hid h.want
  clear h hbx hby
  by_cases c1 : 1 ≤ c
  · have t1 : decide (1 ≤ c) = true := decide_eq_true c1
    by_cases c2 : c < (L : Int)
    · have t2 : decide (c < (L : Int)) = true := decide_eq_true c2
      have hkk : kk = c := by rw [HW.out, if_pos ⟨c1, c2⟩]
      subst hkk
      go_wp2_with (go_at_call 21; refine HDEG.out.mono ?_; rintro e w' ⟨rfl, hw'⟩; subst hw'; refine Hid.out ?_)
      refine Nu.hid ?_
      go_wp2
      rw [← HT.out, ← HQQ.out]
      exact rest2 m ao _ es x _ z w w2 w4 p Bs at4 c4 Z L D _ _ _ _ _ _ _ _ _ _ _ _ _ _ HR.out HD.out (by simp) HBX.out HBY.out
    · have t2 : decide (c < (L : Int)) = false := decide_eq_false c2
      have hkk : kk = (L : Int) := by rw [HW.out, if_neg (fun h => c2 h.2)]
      subst hkk
      go_wp2_with (go_at_call 21; refine HDEG.out.mono ?_; rintro e w' ⟨rfl, hw'⟩; subst hw'; refine Hid.out ?_)
      refine Nu.hid ?_
      go_wp2
      rw [← HT.out, ← HQQ.out]
      exact rest2 m ao _ es x _ z w w2 w4 p Bs at4 c4 Z L D _ _ _ _ _ _ _ _ _ _ _ _ _ _ HR.out HD.out (by simp) HBX.out HBY.out
  · have t1 : decide (1 ≤ c) = false := decide_eq_false c1
    have hkk : kk = (L : Int) := by rw [HW.out, if_neg (fun h => c1 h.1)]
    subst hkk
    go_wp2_with (go_at_call 21; refine HDEG.out.mono ?_; rintro e w' ⟨rfl, hw'⟩; subst hw'; refine Hid.out ?_)
    refine Nu.hid ?_
    go_wp2
    rw [← HT.out, ← HQQ.out]
    exact rest2 m ao _ es x _ z w w2 w4 p Bs at4 c4 Z L D _ _ _ _ _ _ _ _ _ _ _ _ _ _ HR.out HD.out (by simp) HBX.out HBY.out

end lawIter
end Go.Proofs.Ytlnkcebfnamdcaa
