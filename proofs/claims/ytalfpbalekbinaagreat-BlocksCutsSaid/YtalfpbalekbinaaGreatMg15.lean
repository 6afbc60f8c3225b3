import Derived.Test.YtalfpbalekbinaaGreatMg13
import Derived.Test.YtalfpbalekbinaaGreatMg14
import Derived.Test.YtalfpbalekbinaaGreatMg04
import Derived.RangeFuncNested
import Derived.RangeFuncBound
import Derived.RangeFuncCalls
import Derived.RangeFuncLeaves
import Derived.RangeFuncBox
import Derived.Shelf.Abstract
import Derived.Shelf.RegionOpen
import Derived.OwnWalkIn
import Derived.TacticsInMore
import Derived.LoopNIn
import Derived.LoopIn
import Derived.Maps.AppendAt
import Derived.Deep.RegionHeld3
/-
  The finder's lists; back.
-/
namespace Go.Proofs.YtalfpbalekbinaaGreat
open Go.RowKit Go.Sort

section
variable {x : Fx} {w0 : World}
theorem Fx.Ok.hei (h : x.Ok w0) {v : Nat} (hv : v < x.n) : ∃ b o, x.f.a2 = some ⟨b, o, none⟩ ∧ ∀ W, Below w0.heap.size w0 W → ∀ i, i < x.n → W.cell? ⟨b, o + i, none⟩ = some (.int .i64 (Df.at_ x.s.hei i)) := by
  have l := h.vf.lens
  obtain ⟨b, o, e, -⟩ := lst_at h.lst.l2 (i := v) (by rw [l.2.1]; exact hv)
  refine ⟨b, o, e, fun W hW i hi => ?_⟩
  obtain ⟨b', o', e', d'⟩ := lst_at (h.lst.later hW).l2 (i := i) (by rw [l.2.1]; exact hi)
  rw [e] at e'
  cases e'
  exact d'
theorem Fx.Ok.par (h : x.Ok w0) {v : Nat} (hv : v < x.n) : ∃ b o, x.f.a1 = some ⟨b, o, none⟩ ∧ ∀ W, Below w0.heap.size w0 W → ∀ i, i < x.n → W.cell? ⟨b, o + i, none⟩ = some (.int .i64 (Df.at_ x.s.par i)) := by
  have l := h.vf.lens
  obtain ⟨b, o, e, -⟩ := lst_at h.lst.l1 (i := v) (by rw [l.1]; exact hv)
  refine ⟨b, o, e, fun W hW i hi => ?_⟩
  obtain ⟨b', o', e', d'⟩ := lst_at (h.lst.later hW).l1 (i := i) (by rw [l.1]; exact hi)
  rw [e] at e'
  cases e'
  exact d'
theorem Fx.Ok.ord (h : x.Ok w0) {v : Nat} (hv : v < x.n) : ∃ b o, x.f.a3 = some ⟨b, o, none⟩ ∧ ∀ W, Below w0.heap.size w0 W → ∀ i, i < x.n → W.cell? ⟨b, o + i, none⟩ = some (.int .i64 (Df.at_ x.s.ord i)) := by
  have l := h.vf.lens
  obtain ⟨b, o, e, -⟩ := lst_at h.lst.l3 (i := v) (by rw [l.2.2.1]; exact hv)
  refine ⟨b, o, e, fun W hW i hi => ?_⟩
  obtain ⟨b', o', e', d'⟩ := lst_at (h.lst.later hW).l3 (i := i) (by rw [l.2.2.1]; exact hi)
  rw [e] at e'
  cases e'
  exact d'
theorem Fx.Ok.ori (h : x.Ok w0) {v : Nat} (hv : v < x.es.length) : ∃ b o, x.f.a4 = some ⟨b, o, none⟩ ∧ ∀ W, Below w0.heap.size w0 W → ∀ i, i < x.es.length → W.cell? ⟨b, o + i, none⟩ = some (.int .i64 (Df.at_ x.s.ori i)) := by
  have l := h.vf.lens
  obtain ⟨b, o, e, -⟩ := lst_at h.lst.l4 (i := v) (by rw [l.2.2.2]; exact hv)
  refine ⟨b, o, e, fun W hW i hi => ?_⟩
  obtain ⟨b', o', e', d'⟩ := lst_at (h.lst.later hW).l4 (i := i) (by rw [l.2.2.2]; exact hi)
  rw [e] at e'
  cases e'
  exact d'
end

section
variable {x : Fx} {w0 w w' : World} {sv yv : Value} {D : DataW Value} {G : Nat → Prop} {S : List (Nat × Int)} {Y : List Nat} {F : List (List Nat)}
/-- The finder stays if nothing of its own is written. -/
theorem FinIn.keep (h : FinIn x w0 w sv yv D G S Y F) (h1 : w'.os = w.os) (h2 : w'.tape = w.tape) (h3 : w'.output = w.output) (h4 : w.heap.size ≤ w'.heap.size) (hk : ∀ k, k < w.heap.size → (k < w0.heap.size ∨ k = x.p ∨ k = x.mb ∨ sv.ownBlock = some k ∨ yv.ownBlock = some k ∨ (G k ∧ ∃ L ∈ F, IntsBlk w k (L.map Nat.cast))) → w'.heap[k]? = w.heap[k]?) : FinIn x w0 w' sv yv D G S Y F := by
  refine ⟨h.ok, h.below.trans ⟨h1, h2, h3, h4, fun k hk' => hk k (by have := h.below.size; omega) (.inl hk')⟩, Nat.le_trans h.size h4, (hk _ h.plt (.inr (.inl rfl))).trans h.blk, h.stk.same fun g hg hl => hk g hl (.inr (.inr (.inr (.inl hg)))), h.way.same fun g hg hl => hk g hl (.inr (.inr (.inr (.inr (.inl hg))))), h.ne, ?_, h.keys, fun L hL => ?_, fun g hg => ?_⟩
  · have hl := h.map.lt
    obtain ⟨es, ck, e, r⟩ := h.map
    exact ⟨es, ck, (hk _ hl (.inr (.inr (.inl rfl)))).trans e, r⟩
  · obtain ⟨g, e, hB, hG, hi⟩ := h.rows L hL
    exact ⟨g, e, hB, hG, (hk g hi.lt (.inr (.inr (.inr (.inr (.inr ⟨hG, L, hL, hi⟩)))))).trans hi⟩
  · obtain ⟨a, b⟩ := h.far g hg
    exact ⟨Nat.lt_of_lt_of_le a h4, b⟩

/-- It abides the turn of a block that is no cells. -/
theorem FinIn.grown {B : Nat} {row : Option Nat} (h : FinIn x w0 w sv yv D G S Y F) (hg : w.grownBy w' row) (hr : ∀ r, row = some r → B ≤ r ∧ ∃ o : Obj, w.heap[r]? = some o ∧ o.isCells = false) (h1 : w0.heap.size ≤ B) (h2 : x.mb < B) : FinIn x w0 w' sv yv D G S Y F := by
  have hcell : ∀ k o, w.heap[k]? = some o → o.isCells = true → some k ≠ row := fun k o hk ho e => by
    obtain ⟨_, o', ho', hc⟩ := hr k e.symm
    rw [hk] at ho'
    cases ho'
    rw [ho] at hc
    cases hc
  refine h.keep hg.os hg.tape hg.output hg.size fun k hk hc => hg.block k hk ?_
  rcases hc with e | rfl | rfl | e | e | ⟨_, L, hL, hi⟩
  · intro e1
    have := (hr k e1.symm).1
    omega
  · exact hcell _ _ h.blk rfl
  · intro e1
    have := (hr _ e1.symm).1
    omega
  · rcases h.stk.2 with ⟨e1, _⟩ | ⟨g, cap, cur, e1, _, hh, _⟩
    · rw [e1] at e; cases e
    · rw [e1] at e
      obtain rfl : g = k := Option.some.inj e
      exact hcell _ _ hh rfl
  · rcases h.way.2 with ⟨e1, _⟩ | ⟨g, cap, cur, e1, _, hh, _⟩
    · rw [e1] at e; cases e
    · rw [e1] at e
      obtain rfl : g = k := Option.some.inj e
      exact hcell _ _ hh rfl
  · exact hcell _ _ hi rfl

set_option maxRecDepth 100000 in
set_option maxHeartbeats 16000000 in
theorem back9_any (i : Nat) (hi : i < 2 * x.es.length) (h : FinIn x w0 w sv yv D G S Y F) :
    Calls Tryz.prog 76 #[.pointer (some ⟨x.p, 0, none⟩), .int .i64 (i : Int)] w fun e w' => e = .returned (.bool (decide (Df.at_ x.s.ori (i / 2) = (i : Int)) && (Df.at_ x.s.par (Cs.to x.es i) != (i : Int)))) ∧ Below w.heap.size w w' := by
  have hl := Cs.half_lt h.ok.val hi
  obtain ⟨b, o, ef, hc⟩ := h.ok.par hl.2
  obtain ⟨b4, o4, ef4, hc4⟩ := h.ok.ori (v := i / 2) (by omega)
  have hbel : ∀ D : LW w, Below w0.heap.size w0 D.val := fun D => h.below.trans (D.h.mono h.below.size)
  have c0 : ∀ D : LW w, D.val.cell? ⟨x.p, 0, none⟩ = some x.av := fun D => ((h.later D.h).cells (i := 0) rfl).1
  have c1 : ∀ D : LW w, D.val.cell? ⟨x.p, 1, none⟩ = some (.slice (some ⟨b, o, none⟩) x.n x.f.c1) := fun D => by have := ((h.later D.h).cells (i := 1) (u := .slice x.f.a1 x.n x.f.c1) rfl).1; rwa [ef] at this
  have c4 : ∀ D : LW w, D.val.cell? ⟨x.p, 4, none⟩ = some (.slice (some ⟨b4, o4, none⟩) x.es.length x.f.c4) := fun D => by have := ((h.later D.h).cells (i := 4) (u := .slice x.f.a4 x.es.length x.f.c4) rfl).1; rwa [ef4] at this
  have d2 : ∀ D : LW w, D.val.cell? ⟨b, o + Cs.to x.es i, none⟩ = some (.int .i64 (Df.at_ x.s.par (Cs.to x.es i))) := fun D => hc D.val (hbel D) _ hl.2
  have d4 : ∀ D : LW w, D.val.cell? ⟨b4, o4 + i / 2, none⟩ = some (.int .i64 (Df.at_ x.s.ori (i / 2))) := fun D => hc4 D.val (hbel D) _ (by omega)
  have HFR : Hid (∀ D : LW w, Calls Tryz.prog 46 #[x.av, .int .i64 (i : Int)] D.val fun e w' => e = .returned (.int .i64 (Cs.to x.es i : Int)) ∧ Below D.val.heap.size D.val w') := fun D => (to_any x.av x.n x.es (i : Int) D.val (h.ok.adj.later (hbel D))).mono fun e w' ⟨he, hw⟩ => ⟨by rw [he, Cs.toI_in hi], by rw [hw]; exact Below.refl _ _⟩
  have hfew := h.ok.val.few
  obtain ⟨t, ht⟩ : ∃ t, Cs.to x.es i = t := ⟨_, rfl⟩
  obtain ⟨z, hz⟩ : ∃ z, Df.at_ x.s.par t = z := ⟨_, rfl⟩
  obtain ⟨y, hy⟩ : ∃ y, Df.at_ x.s.ori (i / 2) = y := ⟨_, rfl⟩
  obtain ⟨jh, hjh⟩ : ∃ jh, i / 2 = jh := ⟨_, rfl⟩
  have i0 : (0 : Int) ≤ (i : Int) := by omega
  have htd : (i : Int).tdiv 2 = (jh : Int) := by rw [Int.tdiv_eq_ediv_of_nonneg i0]; omega
  have htd2 : (i : Int) / 2 = (jh : Int) := by omega
  have j0 : (0 : Int) ≤ (jh : Int) := by omega
  have j1 : (jh : Int) < (x.es.length : Int) := by omega
  have jw : IntKind.i64.wrap (jh : Int) = (jh : Int) := by
    simp [IntKind.wrap, IntKind.bits, IntKind.signed]
    omega
  rw [ht, hz] at d2
  rw [hy, hjh] at d4
  rw [ht] at HFR
  rw [ht, hz, hy]
  have t0 : (0 : Int) ≤ (t : Int) := by omega
  have t1 : (t : Int) < (x.n : Int) := by have := hl.2; rw [ht] at this; omega
  have hne := LW.any w
  clear hl hc h ef ht hz hi hc4 ef4 hy hbel
  by_cases c : y = (i : Int)
  · have eb : (y == (i : Int)) = true := by simp [c]
    rw [decide_eq_true c, Bool.true_and]
    clear c hjh
    go_enter Tryz.func76, Tryz.ntmps76
    go_wp2_with fail
    refine wp_region_lw (by kernel_rfl) (by kernel_rfl) ?_
    repeat (go_big_quiet_step ((first | (go_at_call 46; exact Calls.lw (HFR.out _)))))
    refine wpQuiet_nil ?_
    rintro _ ⟨D, rfl⟩
    go_wp2
    go_ret
    exact ⟨rfl, D.h⟩
  · have eb : (y == (i : Int)) = false := by simp [c]
    rw [decide_eq_false c, Bool.false_and]
    clear c hjh
    go_enter Tryz.func76, Tryz.ntmps76
    go_wp2_with fail
    refine wp_region_lw (by kernel_rfl) (by kernel_rfl) ?_
    repeat (go_big_quiet_step ((first | (go_at_call 46; exact Calls.lw (HFR.out _)))))
    refine wpQuiet_nil ?_
    rintro _ ⟨D, rfl⟩
    go_wp2
    go_ret
    exact ⟨rfl, D.h⟩
end
end Go.Proofs.YtalfpbalekbinaaGreat

/-
  One more is laid on the finder's stack, or on its way.
-/
namespace Go.Proofs.YtalfpbalekbinaaGreat
open Go.RowKit Go.Sort

section
variable {x : Fx} {w0 A : World} {sv yv : Value} {D : DataW Value} {G : Nat → Prop} {S : List (Nat × Int)} {Y : List Nat} {F : List (List Nat)}

/-- 'f.stack = append(f.stack, held{e, z})', from the new element on. -/
theorem FinIn.pushS (h : FinIn x w0 A sv yv D G S Y F) (e : Nat) (z : Int) (hS : S.length ≤ 4194304) (ty : TypeId) :
    ∃ v' w2, (Builtin.append_ #[66, 66] ty #[sv, .slice (some ⟨A.heap.size, 0, none⟩) 1 1]).run Tryz.prog (A.alloc (.cells #[.int .i64 (e : Int), .int .i64 z] 103)) = .ok v' w2 ∧
      Wrote (fun k => sv.ownBlock = some k) A w2 ∧ (v'.ownBlock = sv.ownBlock ∨ ∃ g, v'.ownBlock = some g ∧ A.heap.size < g) ∧ (∃ g c, v' = .slice (some ⟨g, 0, none⟩) (S.length + 1) c) ∧
      FinIn x w0 (w2.setCell ⟨x.p, 5, none⟩ v') v' yv D G (S ++ [(e, z)]) Y F ∧ Wrote (fun k => k = x.p ∨ sv.ownBlock = some k) A (w2.setCell ⟨x.p, 5, none⟩ v') := by
  obtain ⟨i0, hi, hz0, hz1, hz2⟩ := info_parts Tryz.infoHeld
  have hrow : (A.alloc (.cells #[.int .i64 (e : Int), .int .i64 z] 103)).ownsRow x.B 103 2 sv S.length (flatE (Bl.prs S)) := World.ownsRow.alloc h.stk _
  obtain ⟨v', w2, hrun, hown, hg, hnil, hat⟩ := run_append_own_at (P := Tryz.prog) (A.alloc (.cells #[.int .i64 (e : Int), .int .i64 z] 103)) x.B 66 ty 103 i0 (.agg #[.int .i64 0, .int .i64 0]) 2 16 Tryz.underlying66 hi hz0 hz1 hz2 rfl (by decide) sv S.length _ hrow ⟨A.heap.size, 0, none⟩ 1 1 [.int .i64 (e : Int), .int .i64 z] rfl
    (new_two_e A _ rfl _ _ _) (by simp [Value.oneCell']) (by unfold maxLen; omega) (by omega) (by have := h.size; simp; omega)
  have hgw : Wrote (fun k => sv.ownBlock = some k) A w2 := by
    refine ⟨hg.os, hg.tape, hg.output, by have := hg.size; rw [World.size_alloc] at this; omega, fun k hk hn => ?_⟩
    rw [hg.block k (by rw [World.size_alloc]; omega) (fun e => hn e.symm)]
    exact Below.heap_alloc A _ k hk
  have hat2 : v'.ownBlock = sv.ownBlock ∨ ∃ g, v'.ownBlock = some g ∧ A.heap.size < g := by
    rcases hat with e1 | e1
    · exact .inl e1
    · exact .inr ⟨_, e1, by simp⟩
  have hownH : OwnH w2 x.B v' (S ++ [(e, z)]) := by
    unfold OwnH
    have e1 : Bl.prs (S ++ [(e, z)]) = Bl.prs S ++ [((e : Int), z)] := by simp [Bl.prs]
    rw [e1, flatE_snoc, List.length_append]
    exact hown
  have hpv : v'.ownBlock ≠ some x.p := fun e1 => by
    rcases hat2 with e2 | ⟨g, e2, hg2⟩
    · rw [e2] at e1; exact h.sfar h.ok.l4 e1
    · rw [e2] at e1; have := Option.some.inj e1; have := h.plt; omega
  have hyv : v'.ownBlock ≠ yv.ownBlock := fun e1 => by
    rcases hat2 with e2 | ⟨g, e2, hg2⟩
    · rw [e2] at e1
      rcases h.ne with e3 | e3
      · rw [e3] at e2
        obtain ⟨g, c, rfl⟩ := own_succ hown
        cases e2
      · exact e3 e1
    · rw [e2] at e1
      have := (World.ownsRow.lt h.way g e1.symm).2
      omega
  have hblk2 : w2.heap[x.p]? = some (.cells (x.cells sv yv) 68 (0, 0)) := (hgw.block _ h.plt (fun e1 => h.sfar h.ok.l4 e1)).trans h.blk
  have hW : Wrote (fun k => k = x.p ∨ sv.ownBlock = some k) A (w2.setCell ⟨x.p, 5, none⟩ v') := (hgw.mono fun k _ hk => .inr hk).setCell (.inl rfl) _
  refine ⟨v', w2, hrun, hgw, hat2, own_succ hown, ?_, hW⟩
  refine h.turn (hW.mono fun k _ hk => hk.elim .inl (fun hk => .inr (.inl hk))) (heap_setCell_same w2 x.p 5 _ _ _ hblk2) ?_ ?_ (.inr hyv) (hat2.imp id fun ⟨g, e1, e2⟩ => ⟨g, e1, by omega⟩) (.inl rfl)
  · exact hownH.same fun g hg' _ => heap_setCell_other w2 ⟨x.p, 5, none⟩ g _ (fun e1 => hpv (by rw [hg']; exact congrArg some e1))
  · refine h.way.same fun g hg' hl => ?_
    rw [heap_setCell_other w2 ⟨x.p, 5, none⟩ g _ (fun e1 => h.yfar h.ok.l4 (by rw [hg']; exact congrArg some e1))]
    refine hgw.block g hl (fun e1 => ?_)
    rcases h.ne with e3 | e3
    · rw [e3] at e1; cases e1
    · exact e3 (e1.trans hg'.symm)

/-- 'f.way = append(f.way, k)', from the new element on. -/
theorem FinIn.pushY (h : FinIn x w0 A sv yv D G S Y F) (k : Nat) (hY : Y.length ≤ 4194304) (ty : TypeId) :
    ∃ v' w2, (Builtin.append_ #[26, 26] ty #[yv, .slice (some ⟨A.heap.size, 0, none⟩) 1 1]).run Tryz.prog (A.alloc (.cells #[.int .i64 (k : Int)] 3)) = .ok v' w2 ∧
      Wrote (fun k => yv.ownBlock = some k) A w2 ∧ (v'.ownBlock = yv.ownBlock ∨ ∃ g, v'.ownBlock = some g ∧ A.heap.size < g) ∧ (∃ g c, v' = .slice (some ⟨g, 0, none⟩) (Y.length + 1) c) ∧
      FinIn x w0 (w2.setCell ⟨x.p, 6, none⟩ v') sv v' D G S (Y ++ [k]) F ∧ Wrote (fun k => k = x.p ∨ yv.ownBlock = some k) A (w2.setCell ⟨x.p, 6, none⟩ v') := by
  obtain ⟨i0, hi, hz0, hz1, hz2⟩ := info_parts Tryz.infoNum
  have hrow : (A.alloc (.cells #[.int .i64 (k : Int)] 3)).ownsRow x.B 3 1 yv (Y.map (Nat.cast : Nat → Int)).length ((Y.map (Nat.cast : Nat → Int)).map (Value.int .i64)) := World.ownsRow.alloc h.way _
  rw [List.length_map] at hrow
  obtain ⟨v', w2, hrun, hown, hg, hnil, hat⟩ := run_append_own_at (P := Tryz.prog) (A.alloc (.cells #[.int .i64 (k : Int)] 3)) x.B 26 ty 3 i0 (.int .i64 0) 1 8 Tryz.underlying26 hi hz0 hz1 hz2 rfl (by decide) yv Y.length _ hrow ⟨A.heap.size, 0, none⟩ 1 1 [.int .i64 (k : Int)] rfl
    (cell_one_new _ _ _) (by simp [Value.oneCell']) (by unfold maxLen; omega) (by omega) (by have := h.size; simp; omega)
  have hgw : Wrote (fun k => yv.ownBlock = some k) A w2 := by
    refine ⟨hg.os, hg.tape, hg.output, by have := hg.size; rw [World.size_alloc] at this; omega, fun k hk hn => ?_⟩
    rw [hg.block k (by rw [World.size_alloc]; omega) (fun e => hn e.symm)]
    exact Below.heap_alloc A _ k hk
  have hat2 : v'.ownBlock = yv.ownBlock ∨ ∃ g, v'.ownBlock = some g ∧ A.heap.size < g := by
    rcases hat with e1 | e1
    · exact .inl e1
    · exact .inr ⟨_, e1, by simp⟩
  have hownZ : OwnZ w2 x.B v' ((Y ++ [k]).map Nat.cast) := by
    unfold OwnZ
    rw [List.map_append, List.length_append, List.map_append, List.length_map]
    exact hown
  have hpv : v'.ownBlock ≠ some x.p := fun e1 => by
    rcases hat2 with e2 | ⟨g, e2, hg2⟩
    · rw [e2] at e1; exact h.yfar h.ok.l4 e1
    · rw [e2] at e1; have := Option.some.inj e1; have := h.plt; omega
  have hsv : sv.ownBlock = none ∨ sv.ownBlock ≠ v'.ownBlock := by
    rcases hat2 with e2 | ⟨g, e2, hg2⟩
    · rw [e2]; exact h.ne
    · refine .inr fun e1 => ?_
      rw [e2] at e1
      have := (h.stk.lt e1).2
      omega
  have hblk2 : w2.heap[x.p]? = some (.cells (x.cells sv yv) 68 (0, 0)) := (hgw.block _ h.plt (fun e1 => h.yfar h.ok.l4 e1)).trans h.blk
  have hW : Wrote (fun k => k = x.p ∨ yv.ownBlock = some k) A (w2.setCell ⟨x.p, 6, none⟩ v') := (hgw.mono fun k _ hk => .inr hk).setCell (.inl rfl) _
  refine ⟨v', w2, hrun, hgw, hat2, own_succ hown, ?_, hW⟩
  refine h.turn (hW.mono fun k _ hk => hk.elim .inl (fun hk => .inr (.inr hk))) (heap_setCell_same w2 x.p 6 _ _ _ hblk2) ?_ ?_ hsv (.inl rfl) (hat2.imp id fun ⟨g, e1, e2⟩ => ⟨g, e1, by omega⟩)
  · refine h.stk.same fun g hg' hl => ?_
    rw [heap_setCell_other w2 ⟨x.p, 6, none⟩ g _ (fun e1 => h.sfar h.ok.l4 (by rw [hg']; exact congrArg some e1))]
    refine hgw.block g hl (fun e1 => ?_)
    rcases h.ne with e3 | e3
    · rw [e3] at hg'; cases hg'
    · exact e3 (hg'.trans e1.symm)
  · exact hownZ.same fun g hg' _ => heap_setCell_other w2 ⟨x.p, 6, none⟩ g _ (fun e1 => hpv (by rw [hg']; exact congrArg some e1))
end
end Go.Proofs.YtalfpbalekbinaaGreat

/-
  Out: the iterator over the half-edges that leave a vertex, and its contract.
-/
namespace Go.Proofs.YtalfpbalekbinaaGreat
open Go.RowKit Go.Shelf

attribute [local go_sem] Oper.semAt_some

/-- What lay below n₀ lies as it lay, and so does the iterator's box. -/
def KpW (n₀ Bs : Nat) (W W' : World) : Prop := Below n₀ W W' ∧ W'.heap[Bs]? = W.heap[Bs]?

theorem KpW.refl (n₀ Bs : Nat) (W : World) : KpW n₀ Bs W W := ⟨Below.refl _ _, rfl⟩
theorem kpW_t {n₀ Bs : Nat} {A B C : World} (h : KpW n₀ Bs A B) (k : KpW n₀ Bs B C) : KpW n₀ Bs A C := ⟨h.1.trans k.1, k.2.trans h.2⟩
theorem kpW_b {n₀ Bs : Nat} {w : World} (hn : n₀ ≤ w.heap.size) (hs : Bs < w.heap.size) (W : World) (l : Nat) (o o' : Obj) (hl : w.heap.size ≤ l) (h : W.heap[l]? = some o) (h1 : o.isCells = false) (h2 : o.isWalk = false) : KpW n₀ Bs W (W.putObj l o') :=
  ⟨belowK_b hn W l o o' hl h h1 h2, World.putObj_heap_other (by omega)⟩

/-- The numbers l lie at ao, below n₀. -/
def IntsUnder (n₀ : Nat) (w : World) (ao : Option Addr) (l : List Int) : Prop := ∀ (j : Nat) (x : Int), l[j]? = some x → ∃ b o : Nat, ao = some ⟨b, o, none⟩ ∧ b < n₀ ∧ w.cell? ⟨b, o + j, none⟩ = some (.int .i64 x)

theorem IntsAt.under {w W : World} {ao : Option Addr} {l : List Int} (h : IntsAt w ao l) (hb : Below w.heap.size w W) : IntsUnder w.heap.size W ao l := fun j x hj => by
  obtain ⟨b, o, e, hc⟩ := h j x hj
  exact ⟨b, o, e, block_lt_of_cell hc, (hb.cell (p := ⟨b, o + j, none⟩) (block_lt_of_cell hc)).trans hc⟩

theorem IntsUnder.below {n₀ : Nat} {w W : World} {ao : Option Addr} {l : List Int} (h : IntsUnder n₀ w ao l) (hb : Below n₀ w W) : IntsUnder n₀ W ao l := fun j x hj => by
  obtain ⟨b, o, e, hl, hc⟩ := h j x hj
  exact ⟨b, o, e, hl, (hb.cell (p := ⟨b, o + j, none⟩) hl).trans hc⟩

set_option maxRecDepth 100000 in
set_option maxHeartbeats 2000000 in
/-- The closure that Out answers, for every loop body that keeps what lay below n₀ and its box. -/
theorem citer_in (F : Fence) (n : Nat) (hf : F.fn 81) (hro : F.round = none) (hn : 1 ≤ n) (l Bs n₀ cap : Nat) (ao : Option Addr) (zs : List Int) (hz : zs.length ≤ 8388608) (J Jx : List Int → World → Prop)
    (hY : ∀ pre x W, J pre W → pre.length < zs.length → YieldAt F (n - 1) Tryz.prog l #[.int .i64 x] W fun e W' =>
      (e = .returned (.bool true) ∧ J (pre ++ [x]) W' ∧ KpW n₀ Bs W W') ∨ (e = .returned (.bool false) ∧ Jx (pre ++ [x]) W'))
    (W : World) (hB : Boxed W Bs 26 (.slice ao zs.length cap)) (hc : IntsUnder n₀ W ao zs) (h0 : J [] W) :
    CallsIn F n Tryz.prog 81 #[.func (.yield l) #[] #[], .pointer (some ⟨Bs, 0, none⟩)] W fun e W' => (∃ v, e = .returned v) ∧ ((∃ ys, ys = zs ∧ J ys W') ∨ (∃ pre, pre <+: zs ∧ Jx pre W')) := by
  have hb0 := hB.cell
  refine callsIn_of_wp Tryz.func81 rfl hf ?_ hro
  simp only [Tryz.ntmps81, List.size_toArray, List.length_cons, List.length_nil, Nat.reduceAdd, Nat.reduceSub, Array.replicate_succ, Array.replicate_zero, List.push_toArray, List.append_toArray, List.nil_append, List.cons_append]
  gi_wp2
  gi_loopw [6] (fun i wr => ∃ k : Nat, k ≤ zs.length ∧ i = .int .i64 k ∧ J (zs.take k) wr ∧ KpW n₀ Bs W wr) (fun i _ => zs.length - (intOf i).toNat)
  case atStart => exact ⟨0, Nat.zero_le _, rfl, by simpa using h0, KpW.refl _ _ _⟩
  case round =>
    obtain ⟨k, hk, rfl, hJs, hnx⟩ := hrel
    by_cases hlt : k < zs.length
    · obtain ⟨z, hz0⟩ : ∃ z, zs[k]? = some z := ⟨_, List.getElem?_eq_getElem hlt⟩
      obtain ⟨b, o, rfl, hbn, hcz⟩ := hc k z hz0
      have hb1 : wr.cell? ⟨Bs, 0, none⟩ = some (.slice (some ⟨b, o, none⟩) zs.length cap) := (World.cell?_of_block (w := W) (a := ⟨Bs, 0, none⟩) hnx.2).trans hb0
      have hc1 : wr.cell? ⟨b, o + k, none⟩ = some (.int .i64 z) := (hnx.1.cell (p := ⟨b, o + k, none⟩) hbn).trans hcz
      obtain ⟨fn, tmps, assign, body, hy, hR⟩ := hY (zs.take k) z wr hJs (by simp; omega)
      have hsn : zs.take (k + 1) = zs.take k ++ [z] := by
        rw [List.take_add_one, hz0]
        rfl
      have hk0 : (0 : Int) ≤ (k : Int) := by omega
      have hk1 : (k : Int) < (zs.length : Int) := by omega
      have HSN := Nu.hid hsn
      have HJ := Nu.hid hJs
      have HNX := Nu.hid hnx
      clear hsn hJs hnx hY hcz hz0
      gi_wp2
      refine hR.mono ?_
      rintro e W3 (⟨rfl, hJ3, hk3⟩ | ⟨rfl, hJx3⟩)
      · have HJ3 := Nu.hid hJ3
        have HK3 := Nu.hid hk3
        clear hJ3 hk3
        gi_wp2
        go_roundw
        case rel => exact ⟨k + 1, by omega, by go_num, by rw [HSN.out]; exact HJ3.out, kpW_t HNX.out HK3.out⟩
        case measure => simp [intOf]; omega
      · have HJX3 := Nu.hid hJx3
        clear hJx3
        gi_wp2
        refine bodyPost_ret (results_none rfl _ _ _) rfl ?_
        exact ⟨⟨_, rfl⟩, .inr ⟨_, by rw [← HSN.out]; exact List.take_prefix _ _, HJX3.out⟩⟩
    · have hd : ¬ ((k : Int) < (zs.length : Int)) := by omega
      have HJ : Hid (J zs wr) := by
        show J zs wr
        rw [List.take_of_length_le (by omega)] at hJs
        exact hJs
      clear hJs hnx hY
      gi_wp2
      go_end0
      refine ⟨⟨_, rfl⟩, .inl ?_⟩
      first | exact ⟨_, rfl, HJ.out⟩ | exact HJ.out

/-- So it is an iterator over zs. -/
theorem citer_stops (F : Fence) (n : Nat) (hf : F.fn 81) (hro : F.round = none) (hn : 1 ≤ n) (Bs n₀ cap : Nat) (ao : Option Addr) (zs : List Int) (hz : zs.length ≤ 8388608) (w : World)
    (hn₀ : n₀ ≤ w.heap.size) (hB : Boxed w Bs 26 (.slice ao zs.length cap)) (hc : IntsUnder n₀ w ao zs) :
    SeqStopsK F n Tryz.prog 81 #[.pointer (some ⟨Bs, 0, none⟩)] (fun x : Int => #[Value.int .i64 x]) (KpW n₀ Bs) (fun ys => ys = zs) (fun pre => pre <+: zs) zs.length w := fun l J Jx W hW _ _ hY h0 =>
  citer_in F n hf hro hn l Bs n₀ cap ao zs hz J Jx hY W ((hW.block Bs hB.lt).trans hB) (hc.below (hW.mono hn₀)) h0

def ItPost (n : Nat) (es : List (Int × Int)) (x : Int) (w0 w : World) (e : Ending) (w' : World) : Prop :=
  ∃ Bs ao cap, e = .returned (.func (.func 81) #[] #[.pointer (some ⟨Bs, 0, none⟩)]) ∧ w.heap.size ≤ Bs ∧ Boxed w' Bs 26 (.slice ao (Cs.outZ n es x).length cap) ∧ IntsAt w0 ao (Cs.outZ n es x) ∧ Below w.heap.size w w'

set_option maxRecDepth 100000 in
set_option maxHeartbeats 2000000 in
theorem citer_any (v : Value) (n : Nat) (es : List (Int × Int)) (x : Int) (w0 w : World) (h : IsAdj w0 v n es) (hb : Below w0.heap.size w0 w) : Calls Tryz.prog 58 #[v, .int .i64 x] w (ItPost n es x w0 w) := by
  have HL := Nu.hid (leaving_any v n es x w0 w h hb)
  clear h hb
  go_enter Tryz.func58, Tryz.ntmps58
  go_wp2_with (go_at_call 80; refine HL.out.mono ?_; rintro e w1 ⟨ao, cap, rfl, hi, k, hw⟩; have HI := Nu.hid hi; have HW := Nu.hid hw; clear hi hw)
  go_ret
  have hw := HW.out
  have hi := HI.out
  subst hw
  refine ⟨w.heap.size, ao, cap, rfl, Nat.le_refl _, ?_, hi, ?_⟩
  · exact Boxed.new (w.drewN k) _ _
  · exact (below_drewN (Below.refl _ _) k).alloc (Nat.le_refl _) _

end Go.Proofs.YtalfpbalekbinaaGreat

/-
  The program's iterators, of half-edges that leave a vertex, and of those by which edges are walked from it.
-/
namespace Go.Proofs.YtalfpbalekbinaaGreat
open Go.RowKit Go.Shelf

attribute [local go_sem] Oper.semAt_some

theorem take_pre {α : Type} {zs : List α} {k : Nat} {z : α} (h : zs[k]? = some z) : zs.take k ++ [z] <+: zs := by
  have : zs.take (k + 1) = zs.take k ++ [z] := by
    rw [List.take_add_one, h]
    rfl
  rw [← this]
  exact List.take_prefix _ _

abbrev enc1 (x : Int) : Array Value := #[.int .i64 x]

set_option maxRecDepth 100000 in
set_option maxHeartbeats 2000000 in
/-- Out's closure. -/
theorem out_it (Bs n₀ cap : Nat) (S : Nat → Prop) (ao : Option Addr) (zs : List Int) (hz : zs.length ≤ 8388608) (w : World) (hn₀ : n₀ ≤ w.heap.size) (hS : ¬ S Bs) (hB : Boxed w Bs 26 (.slice ao zs.length cap)) (hc : IntsUnder n₀ w ao zs) :
    SeqIt Tryz.prog 81 #[.pointer (some ⟨Bs, 0, none⟩)] enc1 n₀ S zs w 0 := by
  intro l J Jx W hW _ _ _ hY h0
  have hBW : Boxed W Bs 26 (.slice ao zs.length cap) := (hW.block Bs hB.lt).trans hB
  have hcW := hc.below (hW.mono hn₀)
  have hb0 := hBW.cell
  have HN : Hid (n₀ ≤ W.heap.size) := Nat.le_trans hn₀ hW.size
  clear hc hB hW
  refine (callsIn_wide (n := 5)).1 ?_
  refine callsIn_of_wp Tryz.func81 rfl trivial ?_ rfl
  simp only [Tryz.ntmps81, List.size_toArray, List.length_cons, List.length_nil, Nat.reduceAdd, Nat.reduceSub, Array.replicate_succ, Array.replicate_zero, List.push_toArray, List.append_toArray, List.nil_append, List.cons_append]
  gi_wp2
  gi_loopw [6] (fun i wr => ∃ k : Nat, k ≤ zs.length ∧ i = .int .i64 k ∧ J (zs.take k) wr ∧ Kep n₀ S W wr ∧ W.heap.size ≤ wr.heap.size) (fun i _ => zs.length - (intOf i).toNat)
  case atStart => exact ⟨0, Nat.zero_le _, rfl, by simpa using h0, Kep.refl _ _ _, Nat.le_refl _⟩
  case round =>
    obtain ⟨k, hk, rfl, hJs, hnx, hsz⟩ := hrel
    by_cases hlt : k < zs.length
    · obtain ⟨z, hz0⟩ : ∃ z, zs[k]? = some z := ⟨_, List.getElem?_eq_getElem hlt⟩
      obtain ⟨b, o, rfl, hbn, hcz⟩ := hcW k z hz0
      have hb1 : wr.cell? ⟨Bs, 0, none⟩ = some (.slice (some ⟨b, o, none⟩) zs.length cap) := hnx.cell hb0 hS
      have hc1 : wr.cell? ⟨b, o + k, none⟩ = some (.int .i64 z) := (hnx.1.cell (p := ⟨b, o + k, none⟩) hbn).trans hcz
      obtain ⟨fn, tmps, assign, body, hy, hR⟩ := hY (zs.take k) z wr (take_pre hz0) hJs (by omega) 4
      have hsn : zs.take (k + 1) = zs.take k ++ [z] := by
        rw [List.take_add_one, hz0]
        rfl
      have hk0 : (0 : Int) ≤ (k : Int) := by omega
      have hk1 : (k : Int) < (zs.length : Int) := by omega
      have HSN := Nu.hid hsn
      have HJ := Nu.hid hJs
      have HNX := Nu.hid hnx
      have HSZ := Nu.hid hsz
      clear hsn hJs hnx hY hcz hz0 hsz
      gi_wp2
      refine hR.mono ?_
      rintro e W3 ⟨hkf, (⟨rfl, hJ3, hk3⟩ | ⟨rfl, hJx3⟩)⟩
      · have HJ3 := Nu.hid hJ3
        have HK3 := Nu.hid hk3
        have HS3 := Nu.hid hkf.size
        clear hJ3 hk3 hkf
        gi_wp2
        go_roundw
        case rel => exact ⟨k + 1, by omega, by go_num, by rw [HSN.out]; exact HJ3.out, HNX.out.trans HK3.out, Nat.le_trans HSZ.out HS3.out⟩
        case measure => simp [intOf]; omega
      · have HJX3 := Nu.hid hJx3
        clear hJx3
        gi_wp2
        refine bodyPost_ret (results_none rfl _ _ _) rfl ?_
        exact ⟨⟨_, rfl⟩, .inr ⟨_, by rw [← HSN.out]; exact List.take_prefix _ _, HJX3.out⟩⟩
    · have hd : ¬ ((k : Int) < (zs.length : Int)) := by omega
      have HJ : Hid (J zs wr) := by
        show J zs wr
        rw [List.take_of_length_le (by omega)] at hJs
        exact hJs
      clear hJs hnx hY
      gi_wp2
      go_end0
      exact ⟨⟨_, rfl⟩, .inl HJ.out⟩

end Go.Proofs.YtalfpbalekbinaaGreat

/-
  A region that draws its order and only reads, in the round of a loop over an iterator: one walk serves every order.
-/
namespace Go.Proofs.YtalfpbalekbinaaGreat
open Go.RowKit

section
variable {P : Program} {ops : Array Oper} {md : Region.Mode} {C : World → Prop}

theorem wpIn_of_quiet {l n : Nat} {o : Oper} {a : Act} {K : Act → Prop} {K' : Act → World → Prop} {Q' : Exit → Act → World → Prop} {w : World} (hnd : ∀ c, o.op ≠ .defer c) (hw : C w) (h : ∀ a w', C w' → K a → K' a w') (hh : o.quiet P a C K) : o.wpIn (Fence.wide.inRound l) n P a w K' Q' := by
  obtain ⟨v, h1, h2⟩ := hh
  have h3 := h1 w hw
  unfold Oper.quietAt at h3
  unfold Oper.wpIn
  refine ⟨fun _ _ => trivial, ?_⟩
  rw [Oper.semAt_plain _ _ _ hnd]
  generalize (execOp a.eval o).run P w = r at *
  cases r with
  | ok x w' =>
    cases x <;> simp only [Oper.quietUpon] at h3 <;> simp only [Oper.uponIn]
    case value u =>
      obtain ⟨e1, e2⟩ := h3
      rw [e1, e2]
      exact h _ _ hw h2
    case skip =>
      obtain ⟨e1, e2⟩ := h3
      rw [e1, ← e2]
      exact h _ _ hw h2
    case enter f args =>
      obtain ⟨e1, hc⟩ := h3
      rw [e1]
      refine ⟨(fun hd => by cases hd), CallsIn.inRound l (callsIn_wide.2 (hc.mono fun e w'' ⟨he, hw''⟩ => ?_))⟩
      subst he
      exact h _ _ hw'' h2
  | halt x w' => simp only [Oper.quietUpon] at h3

theorem wpOpIn_of_qOp {l n i : Nat} {a : Act} {K : Act → Prop} {K' : Act → World → Prop} {Q' : Exit → Act → World → Prop} {w : World} (hnd : ∀ (i : Nat) (o : Oper) c, ops[i]? = some o → o.op ≠ .defer c) (hC : C w) (h : ∀ a w', C w' → K a → K' a w') (hh : qOp P ops C i K a) : wpOpIn (Fence.wide.inRound l) n P ops Q' i K' a w := by
  unfold qOp at hh
  unfold wpOpIn
  split
  · rename_i ho; simp only [ho] at hh; exact h _ _ hC hh
  · rename_i o ho
    simp only [ho] at hh
    split
    · rename_i hw; simp only [hw, if_true] at hh; exact wpIn_of_quiet (fun c => hnd i o c ho) hC h hh
    · rename_i hw; simp only [hw] at hh; exact ⟨fun _ _ => trivial, h _ _ hC hh⟩

theorem wpAnyIn_of_quiet {l n : Nat} {Q : Act → Prop} {Q' : Exit → Act → World → Prop} (hnd : ∀ (i : Nat) (o : Oper) c, ops[i]? = some o → o.op ≠ .defer c) (hQ : ∀ a w, C w → Q a → Q' .normal a w) : ∀ (fuel : Nat) (listed : Array Bool) (a : Act) (w : World), C w →
    wpAnyQ P md ops C Q fuel listed a → wpAnyIn (Fence.wide.inRound l) n P md ops Q' fuel listed a w
  | 0, _, _, _, hw, h => ⟨h.1, hQ _ _ hw h.2⟩
  | fuel + 1, _, _, _, hw, h => ⟨fun h0 => hQ _ _ hw (h.1 h0), fun i hi => wpOpIn_of_qOp hnd hw (fun a' w' hw' => wpAnyIn_of_quiet hnd hQ fuel _ a' w' hw') (h.2 i hi)⟩

def noDefer (o : Oper) : Bool := match o.op with | .defer _ => false | _ => true

theorem wpIn_region_quiet_lit {id l n : Nat} {Q : Exit → Act → World → Prop} {a : Act} {w : World} {os : List Oper} (hm : P.follows .mixedOrders = true) (hB : Region.lexB .any os.toArray = true) (hd : os.all noDefer = true)
    (h : wpQuiet P os.toArray (fun w' => ∃ n, w' = w.drewN n) (fun a' => ∀ w', (∃ n, w' = w.drewN n) → Q .normal a' w') os a) : (Code.region id os.toArray true).wpIn (Fence.wide.inRound l) n P Q a w := by
  have hnd : ∀ (i : Nat) (o : Oper) c, os.toArray[i]? = some o → o.op ≠ .defer c := fun i o c ho e => by
    have := List.all_eq_true.1 hd o (List.mem_of_getElem? (by simpa using ho))
    unfold noDefer at this
    rw [e] at this
    cases this
  simp only [Region.lexB, Bool.and_eq_true] at hB
  refine wpIn_region_any hm (wpAnyIn_of_quiet (C := fun w' => ∃ n, w' = w.drewN n) (Q := fun a' => ∀ w', (∃ n, w' = w.drewN n) → Q .normal a' w') hnd (fun _ w' hw' h => h w' hw') _ _ _ _ ⟨1, rfl⟩ ?_)
  have := wpAnyQ_lex (P := P) (C := fun w' => ∃ n, w' = w.drewN n) (md := .any) hB.1 os.toArray.toList 0 (Array.replicate os.toArray.size false) a (by simp) (by simpa using hB.2) (by simpa using h)
  simpa using this
end

/-- The same, calls among its operations that only make memory. -/
theorem wpIn_region_lw {P : Program} {id l n : Nat} {Q : Exit → Act → World → Prop} {a : Act} {w : World} {os : List Oper} (hm : P.follows .mixedOrders = true) (hB : Region.lexB .any os.toArray = true) (hd : os.all noDefer = true)
    (h : wpQuiet P os.toArray (fun w' => ∃ D : LW w, w' = D.val) (fun a' => ∀ w', (∃ D : LW w, w' = D.val) → Q .normal a' w') os a) : (Code.region id os.toArray true).wpIn (Fence.wide.inRound l) n P Q a w := by
  have hnd : ∀ (i : Nat) (o : Oper) c, os.toArray[i]? = some o → o.op ≠ .defer c := fun i o c ho e => by
    have := List.all_eq_true.1 hd o (List.mem_of_getElem? (by simpa using ho))
    unfold noDefer at this
    rw [e] at this
    cases this
  simp only [Region.lexB, Bool.and_eq_true] at hB
  refine wpIn_region_any hm (wpAnyIn_of_quiet (C := fun w' => ∃ D : LW w, w' = D.val) (Q := fun a' => ∀ w', (∃ D : LW w, w' = D.val) → Q .normal a' w') hnd (fun _ w' hw' h => h w' hw') _ _ _ _ ⟨⟨w.drew, (Below.refl _ _).drew⟩, rfl⟩ ?_)
  have := wpAnyQ_lex (P := P) (C := fun w' => ∃ D : LW w, w' = D.val) (md := .any) hB.1 os.toArray.toList 0 (Array.replicate os.toArray.size false) a (by simp) (by simpa using hB.2) (by simpa using h)
  simpa using this

end Go.Proofs.YtalfpbalekbinaaGreat

/-
  Out's closure, whatever lies around it; half-edges that leave a vertex.
-/
namespace Go.Proofs.YtalfpbalekbinaaGreat
open Go.RowKit Go.Shelf

theorem mem_outZ {n : Nat} {es : List (Int × Int)} {v : Nat} (hv : v < n) {x : Int} : x ∈ Cs.outZ n es v ↔ ∃ i : Nat, x = (i : Int) ∧ i < 2 * es.length ∧ Cs.fr es i = v := by
  unfold Cs.outZ
  rw [Cs.outI_in hv, List.mem_map]
  constructor
  · rintro ⟨i, hi, rfl⟩
    obtain ⟨j, hj⟩ := List.getElem?_of_mem hi
    obtain ⟨h1, h2, _⟩ := Cs.out_of hj
    exact ⟨i, rfl, h1, h2⟩
  · rintro ⟨i, rfl, h1, h2⟩
    exact ⟨i, List.mem_of_getElem? (Cs.out_at h1 h2), rfl⟩

theorem filter_pre {α : Type} (q : α → Bool) {pre zs : List α} (h : pre <+: zs) : pre.filter q <+: zs.filter q := h.filter q

theorem filter_snoc {α : Type} (q : α → Bool) (pre : List α) (x : α) : (pre ++ [x]).filter q = if q x = true then pre.filter q ++ [x] else pre.filter q := by
  rw [List.filter_append]
  by_cases h : q x = true
  · rw [if_pos h, List.filter_cons_of_pos h]; rfl
  · rw [if_neg h, List.filter_cons_of_neg h]; simp

theorem ownFrom_up {β : Type} {B B' : Nat} {J : β → World → Prop} (h : OwnFrom B J) (hB : B ≤ B') : OwnFrom B' J := fun s X Y row hs hg hr => h s X Y row hs hg (fun r e => ⟨Nat.le_trans hB (hr r e).1, (hr r e).2⟩)

/-- What is only made abides in whatever abides turns. -/
theorem own_later {β : Type} {B : Nat} {J : β → World → Prop} (h : OwnFrom B J) {t : β} {X Y : World} (hs : J t X) (hb : Below X.heap.size X Y) : J t Y :=
  h t X Y none hs ⟨hb.os, hb.tape, hb.output, hb.size, fun k hk _ => hb.block k hk⟩ (fun r e => by cases e)

namespace Lo
theorem outI_nodup {n : Nat} {es : List (Int × Int)} {v : Nat} (hv : v < n) : (Cs.outZ n es v).Nodup := by
  unfold Cs.outZ
  rw [Cs.outI_in hv]
  refine List.pairwise_map.2 (List.pairwise_iff_getElem.2 fun i j hi hj hij e => ?_)
  have := Cs.out_rises hij (List.getElem?_eq_getElem hi) (List.getElem?_eq_getElem hj)
  omega
end Lo

theorem kf_below {B : Nat} {A X : World} (h : Below A.heap.size A X) : KeepsFrom B A X := ⟨h.size, fun k _ _ h0 _ => (h.block k (Array.getElem?_eq_some_iff.1 h0).1).trans h0⟩

def ItPost8 (n : Nat) (es : List (Int × Int)) (x : Int) (w0 w : World) (e : Ending) (w' : World) : Prop :=
  ∃ Bs ao cap, e = .returned (.func (.func 81) #[] #[.pointer (some ⟨Bs, 0, none⟩)]) ∧ Bs = w.heap.size ∧ Boxed w' Bs 26 (.slice ao (Cs.outZ n es x).length cap) ∧ IntsAt w0 ao (Cs.outZ n es x) ∧ Below w.heap.size w w'

set_option maxRecDepth 100000 in
set_option maxHeartbeats 2000000 in
theorem citer8_any (v : Value) (n : Nat) (es : List (Int × Int)) (x : Int) (w0 w : World) (h : IsAdj w0 v n es) (hb : Below w0.heap.size w0 w) : Calls Tryz.prog 58 #[v, .int .i64 x] w (ItPost8 n es x w0 w) := by
  have HL := Nu.hid (leaving_any v n es x w0 w h hb)
  clear h hb
  go_enter Tryz.func58, Tryz.ntmps58
  go_wp2_with (go_at_call 80; refine HL.out.mono ?_; rintro e w1 ⟨ao, cap, rfl, hi, k, hw⟩; have HI := Nu.hid hi; have HW := Nu.hid hw; clear hi hw)
  go_ret
  have hw := HW.out
  have hi := HI.out
  subst hw
  exact ⟨w.heap.size, ao, cap, rfl, rfl, Boxed.new (w.drewN k) _ _, hi, (below_drewN (Below.refl _ _) k).alloc (Nat.le_refl _) _⟩

end Go.Proofs.YtalfpbalekbinaaGreat
