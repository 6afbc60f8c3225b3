import Derived.Test.YtalfpbalekbinaaGreatMg30
import Derived.Test.YtalfpbalekbinaaGreatMg31
import Derived.Maps.AppendAt
import Derived.Laws.AppendOwnNone
import Derived.Test.YtalfpbalekbinaaGreatMg17
/-
  The law's less and without: the graph without an edge, without a vertex's edges.
-/
namespace Go.Proofs.YtalfpbalekbinaaGreat
open Go.RowKit Go.Sort

/-- 'append(v, e)' of a list of edges, in a region or not. -/
theorem wp_pushEU {U : World} {o : Oper} {a : Act} {K : Act → World → Prop} {Q : Exit → Act → World → Prop} (s x : Operand) (ho : o.op = .call { callee := .builtin .append, args := #[s, x], argTypes := #[22, 22] })
    (B : Nat) (v : Value) (l : List (Int × Int)) (y z : Int) (hR : OwnE U B v l) (hB : B ≤ U.heap.size) (hs : a.eval s = v) (g : Nat) (hx : a.eval x = .slice (some ⟨g, 0, none⟩) 1 1) (hg : U.heap[g]? = some (.cells #[.int .i64 y, .int .i64 z] 46 (0, 0)))
    (hl : l.length ≤ 8796093022000) (h : ∀ v' w', OwnE w' B v' (l ++ [(y, z)]) → U.grownBy w' v.ownBlock → (v'.ownBlock = v.ownBlock ∨ v'.ownBlock = some U.heap.size) → K (a.put o.dst v') w') : o.wp Tryz.prog a U K Q := by
  obtain ⟨i1, hi1, hy0, hy1, hy2⟩ := info_parts Tryz.infoEdge
  obtain ⟨v', w', hr, h2, h3, _, h5⟩ := run_append_own_at (P := Tryz.prog) U B 22 o.type 46 i1 (.agg #[.int .i64 0, .int .i64 0]) 2 16 Tryz.underlying22 hi1 hy0 hy1 hy2 rfl (by decide) v l.length (flatE l) hR ⟨g, 0, none⟩ 1 1 [.int .i64 y, .int .i64 z] rfl (World.news_of_block hg) (by simp [Value.oneCell']) (by unfold maxLen; omega) (by omega) hB
  unfold Oper.wp execOp
  simp only [ho, resolve, invoke, builtin, Sem.run_bind, Sem.run_pure, Result.andThen_ok, List.map_toArray, List.map_cons, List.map_nil, hs, hx, hr]
  refine h v' w' ?_ h3 h5
  unfold OwnE
  rw [flatE_snoc, List.length_append]
  exact h2

/-- The same, by its run. -/
theorem run_pushE {U : World} (B : Nat) (v : Value) (l : List (Int × Int)) (y z : Int) (hR : OwnE U B v l) (hB : B ≤ U.heap.size) (g : Nat) (hg : U.heap[g]? = some (.cells #[.int .i64 y, .int .i64 z] 46 (0, 0))) (hl : l.length ≤ 8796093022000) :
    ∃ v' w', (∀ (o : Oper) (ev : Operand → Value) (s x : Operand), o.op = .call { callee := .builtin .append, args := #[s, x], argTypes := #[22, 22] } → o.type = 22 → ev s = v → ev x = .slice (some ⟨g, 0, none⟩) 1 1 → (execOp ev o).run Tryz.prog U = .ok (.value v') w') ∧ OwnE w' B v' (l ++ [(y, z)]) ∧ U.grownBy w' v.ownBlock := by
  obtain ⟨i1, hi1, hy0, hy1, hy2⟩ := info_parts Tryz.infoEdge
  obtain ⟨v', w', hr, h2, h3, _, h5⟩ := run_append_own_at (P := Tryz.prog) U B 22 22 46 i1 (.agg #[.int .i64 0, .int .i64 0]) 2 16 Tryz.underlying22 hi1 hy0 hy1 hy2 rfl (by decide) v l.length (flatE l) hR ⟨g, 0, none⟩ 1 1 [.int .i64 y, .int .i64 z] rfl (World.news_of_block hg) (by simp [Value.oneCell']) (by unfold maxLen; omega) (by omega) hB
  refine ⟨v', w', fun o ev s x ho ht hs hx => ?_, ?_, h3⟩
  · unfold execOp
    simp only [ho, ht, resolve, invoke, builtin, Sem.run_bind, Sem.run_pure, Result.andThen_ok, List.map_toArray, List.map_cons, List.map_nil, hs, hx, hr]
  · unfold OwnE
    rw [flatE_snoc, List.length_append]
    exact h2

namespace Bl
theorem take_snoc9 {es : List (Int × Int)} {i : Nat} {p : Int × Int} (hp : es[i]? = some p) : es.take (i + 1) = es.take i ++ [p] := by rw [List.take_add_one, hp]; rfl
theorem less_yes {es : List (Int × Int)} {i e : Nat} {p : Int × Int} (hp : es[i]? = some p) (hne : i ≠ e) : (es.take (i + 1)).eraseIdx e = (es.take i).eraseIdx e ++ [p] := by
  have hl : (es.take i).length = i := by
    have := (List.getElem?_eq_some_iff.1 hp).1
    simp
    omega
  rw [take_snoc9 hp]
  rcases Nat.lt_or_ge e i with h | h
  · rw [List.eraseIdx_append_of_lt_length (by omega)]
  · rw [List.eraseIdx_append_of_length_le (by omega), hl, List.eraseIdx_of_length_le (l := es.take i) (by omega), List.eraseIdx_of_length_le (l := [p]) (by simp; omega)]
theorem less_no {es : List (Int × Int)} {i : Nat} {p : Int × Int} (hp : es[i]? = some p) : (es.take (i + 1)).eraseIdx i = (es.take i).eraseIdx i := by
  have hl : (es.take i).length = i := by
    have := (List.getElem?_eq_some_iff.1 hp).1
    simp
    omega
  rw [take_snoc9 hp, List.eraseIdx_append_of_length_le (by omega), hl, List.eraseIdx_of_length_le (l := es.take i) (by omega)]
  simp
end Bl

/-- The graph, the answer's box, the graph that is made. -/
structure Wo9 (w : World) (n : Int) (ao : Option Addr) (ca : Nat) (es : List (Int × Int)) (v : Value) (l : List (Int × Int)) (W : World) : Prop where
  g : Gr9 w n ao ca es W
  ans : W.heap[w.heap.size + 1]? = some (.cells #[.int .i64 0, .slice none 0 0] 24 (0, 0))
  box : W.heap[w.heap.size + 2]? = some (.cells #[.int .i64 n, v] 24 (0, 0))
  own : OwnE W (w.heap.size + 3) v l
section
variable {w W W' : World} {n : Int} {ao : Option Addr} {ca : Nat} {es : List (Int × Int)} {v : Value} {l : List (Int × Int)}
theorem Wo9.later (h : Wo9 w n ao ca es v l W) (hb : Below W.heap.size W W') : Wo9 w n ao ca es v l W' :=
  ⟨h.g.later hb, (hb.block _ (lt_of_block h.ans)).trans h.ans, (hb.block _ (lt_of_block h.box)).trans h.box, h.own.below hb (Nat.le_refl _)⟩
theorem Wo9.cells (h : Wo9 w n ao ca es v l W) : W.cell? ⟨w.heap.size + 2, 0, none⟩ = some (.int .i64 n) ∧ W.cell? ⟨w.heap.size + 2, 1, none⟩ = some v ∧ W.frozen? ⟨w.heap.size + 2, 1, none⟩ = false := by
  simp [World.cell?, World.frozen?, h.box]
theorem Wo9.grown (h : Wo9 w n ao ca es v l W) {W2 : World} (h2 : W.grownBy W2 v.ownBlock) : Gr9 w n ao ca es W2 := by
  have hfar : ∀ b, b < w.heap.size + 3 → v.ownBlock ≠ some b := fun b hb e => by have := (World.ownsRow.lt h.own b e).1; omega
  refine ⟨h.g.at_, h.g.low.grown h2 h.g.low.size (fun b hb => by have := (World.ownsRow.lt h.own b hb).1; omega), ?_⟩
  rw [h2.block _ (lt_of_block h.g.box) (fun e => hfar _ (by omega) e.symm)]
  exact h.g.box
/-- One more edge. -/
theorem Wo9.push (h : Wo9 w n ao ca es v l W) {v' : Value} {l' : List (Int × Int)} {W2 : World} (h1 : OwnE W2 (w.heap.size + 3) v' l') (h2 : W.grownBy W2 v.ownBlock) : Wo9 w n ao ca es v' l' (W2.setCell ⟨w.heap.size + 2, 1, none⟩ v') ∧ W2.cell? ⟨w.heap.size + 2, 1, none⟩ = some v ∧ W2.frozen? ⟨w.heap.size + 2, 1, none⟩ = false := by
  have hfar : ∀ b, b < w.heap.size + 3 → v.ownBlock ≠ some b := fun b hb e => by have := (World.ownsRow.lt h.own b e).1; omega
  have hb2 := lt_of_block h.box
  have ha2 := lt_of_block h.ans
  have hg2 := lt_of_block h.g.box
  have k2 : W2.heap[w.heap.size + 2]? = some (.cells #[.int .i64 n, v] 24 (0, 0)) := (h2.block _ hb2 (fun e => hfar _ (by omega) e.symm)).trans h.box
  refine ⟨⟨⟨h.g.at_, ?_, ?_⟩, ?_, ?_, ?_⟩, by simp [World.cell?, k2], by simp [World.frozen?, k2]⟩
  · exact (h.g.low.grown h2 (by have := h.g.low.size; omega) (fun b hb => by have := (World.ownsRow.lt h.own b hb).1; omega)).setCell (p := ⟨w.heap.size + 2, 1, none⟩) (by simp) _
  · rw [heap_setCell_other _ ⟨w.heap.size + 2, 1, none⟩ w.heap.size _ (by simp), h2.block _ hg2 (fun e => hfar _ (by omega) e.symm)]
    exact h.g.box
  · rw [heap_setCell_other _ ⟨w.heap.size + 2, 1, none⟩ (w.heap.size + 1) _ (by simp), h2.block _ ha2 (fun e => hfar _ (by omega) e.symm)]
    exact h.ans
  · rw [heap_setCell_same W2 (w.heap.size + 2) 1 _ _ _ k2]
    simp
  · refine ⟨h1.1, ?_⟩
    rcases h1.2 with h1 | ⟨g, cap, cur, e, hgB, hh, hr⟩
    · exact .inl h1
    · exact .inr ⟨g, cap, cur, e, hgB, (heap_setCell_other _ ⟨w.heap.size + 2, 1, none⟩ g _ (by simp; omega)).trans hh, hr⟩
end

set_option maxRecDepth 100000 in
set_option maxHeartbeats 16000000 in
theorem less9_any (n : Int) (ao : Option Addr) (ca : Nat) (es : List (Int × Int)) (e : Nat) (w : World) (he : EdgesAt w ao es) (hfew : es.length ≤ 4194304) :
    Calls Tryz.prog 12 #[.agg #[.int .i64 n, .slice ao es.length ca], .int .i64 (e : Int)] w fun r w' => ∃ a c, r = .returned (.agg #[.int .i64 n, .slice a (es.eraseIdx e).length c]) ∧ EdgesAt w' a (es.eraseIdx e) ∧ Below w.heap.size w w' := by
  obtain ⟨w3, hw3⟩ : ∃ w3, w3 = ((w.alloc (.cells #[.int .i64 n, .slice ao es.length ca] 24)).alloc (.cells #[.int .i64 0, .slice none 0 0] 24)).alloc (.cells #[.int .i64 n, .slice none 0 0] 24) := ⟨_, rfl⟩
  have H3 : Hid (Wo9 w n ao ca es (.slice none 0 0) ((es.take 0).eraseIdx e) w3) := by
    have hb1 : Below w.heap.size w (w.alloc (.cells #[.int .i64 n, .slice ao es.length ca] 24)) := (Below.refl _ _).alloc (Nat.le_refl _) _
    refine ⟨⟨he, ?_, ?_⟩, ?_, ?_, by simpa using OwnE.nil _ _⟩
    · rw [hw3]
      exact (hb1.alloc (by simp) _).alloc (by simp; omega) _
    · rw [hw3, Below.heap_alloc _ _ _ (by simp; omega), Below.heap_alloc _ _ _ (by simp)]
      exact heap_alloc_new w _
    · rw [hw3, Below.heap_alloc _ _ _ (by simp)]
      have := heap_alloc_new (w.alloc (.cells #[.int .i64 n, .slice ao es.length ca] 24)) (.cells #[.int .i64 0, .slice none 0 0] 24)
      rw [World.size_alloc] at this
      exact this
    · have := heap_alloc_new ((w.alloc (.cells #[.int .i64 n, .slice ao es.length ca] 24)).alloc (.cells #[.int .i64 0, .slice none 0 0] 24)) (.cells #[.int .i64 n, .slice none 0 0] 24)
      rw [World.size_alloc, World.size_alloc] at this
      rw [hw3]
      exact this
  have HW3 := Nu.hid hw3
  clear he hw3
  go_enter Tryz.func12, Tryz.ntmps12
  go_wp2
  rw [← HW3.out]
  go_loopw [6] (fun cv wr => ∃ (i : Nat) (a : Option Addr) (c : Nat), i ≤ es.length ∧ cv = .int .i64 (i : Int) ∧ Wo9 w n ao ca es (.slice a ((es.take i).eraseIdx e).length c) ((es.take i).eraseIdx e) wr) (fun cv _ => es.length - (intOf cv).toNat)
  case atStart => exact ⟨0, none, 0, Nat.zero_le _, rfl, by simpa using H3.out⟩
  case round =>
    clear H3 HW3
    obtain ⟨i, a, c, hil, rfl, hH⟩ := hrel
    have H := Nu.hid hH
    obtain ⟨x0, x1⟩ := hH.g.cells
    obtain ⟨y0, y1, yf⟩ := hH.cells
    by_cases hin : i < es.length
    · have hili : (i : Int) < (es.length : Int) := by omega
      have hi0 : (0 : Int) ≤ (i : Int) := by omega
      obtain ⟨⟨p1, p2⟩, hq⟩ : ∃ q, es[i]? = some q := ⟨_, List.getElem?_eq_getElem hin⟩
      obtain ⟨b, o, rfl, c0, c1⟩ := hH.g.edges i _ hq
      dsimp only at c0 c1
      by_cases hie : i = e
      · subst hie
        have hd : ((i : Int) != (i : Int)) = false := by simp
        have HY := Nu.hid (Bl.less_no hq)
        clear hH hq
        go_wp2
        go_roundw
        case rel => exact ⟨i + 1, a, c, by omega, by go_num, by rw [HY.out]; exact H.out⟩
        case measure => simp [intOf]; omega
      · have hd : ((i : Int) != (e : Int)) = true := by simp; omega
        have HY := Nu.hid (Bl.less_yes hq hie)
        have HQ := Nu.hid hq
        obtain ⟨l, hl⟩ : ∃ l, (es.take i).eraseIdx e = l := ⟨_, rfl⟩
        have hll : l.length ≤ 4194304 := by
          rw [← hl]
          exact Nat.le_trans (List.length_eraseIdx_le _ _) (by simp; omega)
        rw [hl] at H HY y1
        have HS : Hid (∀ U, Below wr.heap.size wr U → (U.cell? ⟨w.heap.size + 2, 1, none⟩ = some (.slice a l.length c) ∧ U.cell? ⟨w.heap.size, 1, none⟩ = some (.slice (some ⟨b, o, none⟩) es.length ca) ∧ U.cell? ⟨b, o + i * 2, none⟩ = some (.int .i64 p1) ∧ U.cell? ⟨b, o + i * 2 + 1, none⟩ = some (.int .i64 p2))) := fun U hU => by
          have h1 := H.out.later hU
          exact ⟨h1.cells.2.1, h1.g.cells.2, (hU.cell (p := ⟨b, o + i * 2, none⟩) (block_lt_of_cell c0)).trans c0, (hU.cell (p := ⟨b, o + i * 2 + 1, none⟩) (block_lt_of_cell c1)).trans c1⟩
        have HO : Hid (∀ U, Below wr.heap.size wr U → OwnE U (w.heap.size + 3) (.slice a l.length c) l ∧ w.heap.size + 3 ≤ U.heap.size) := fun U hU => ⟨(H.out.later hU).own, by have := lt_of_block (H.out.later hU).box; omega⟩
        have HPU : Hid (∀ U v' w', Below wr.heap.size wr U → OwnE w' (w.heap.size + 3) v' (l ++ [(p1, p2)]) → U.grownBy w' (Value.slice a l.length c).ownBlock → (w'.cell? ⟨w.heap.size + 2, 1, none⟩ = some (.slice a l.length c) ∧ w'.cell? ⟨w.heap.size, 1, none⟩ = some (.slice (some ⟨b, o, none⟩) es.length ca) ∧ w'.cell? ⟨b, o + i * 2, none⟩ = some (.int .i64 p1) ∧ w'.cell? ⟨b, o + i * 2 + 1, none⟩ = some (.int .i64 p2)) ∧ w'.frozen? ⟨w.heap.size + 2, 1, none⟩ = false ∧ (∃ vo vc, v' = .slice vo (l.length + 1) vc) ∧ Wo9 w n (some ⟨b, o, none⟩) ca es v' (l ++ [(p1, p2)]) (w'.setCell ⟨w.heap.size + 2, 1, none⟩ v')) := fun U v' w' hU h1 h2 => by
          have h3 := H.out.later hU
          obtain ⟨k1, k2, k3⟩ := h3.push h1 h2
          have k4 := h3.grown h2
          obtain ⟨b', o', eb, d0, d1⟩ := k4.edges i _ HQ.out
          cases eb
          obtain ⟨vo, vc, ev, _⟩ := h1.form
          rw [List.length_append] at ev
          exact ⟨⟨k2, k4.cells.2, d0, d1⟩, k3, ⟨vo, vc, ev⟩, k1⟩
        have hbU : Below wr.heap.size wr (wr.drew.alloc (.cells #[.int .i64 p1, .int .i64 p2] 46)) := ((Below.refl wr.heap.size wr).drew).alloc (Nat.le_refl _) _
        obtain ⟨v', w2, hrun, r1, r2⟩ := run_pushE (w.heap.size + 3) (.slice a l.length c) l p1 p2 (HO.out _ hbU).1 (HO.out _ hbU).2 wr.heap.size (heap_alloc_new wr.drew _) (by omega)
        obtain ⟨hS10, hf10, ⟨vo10, vc10, hv'⟩, hW10⟩ := HPU.out _ v' w2 hbU r1 r2
        have HV : Hid (∀ V, (V = wr.drew ∨ V = wr.drew.alloc (.cells #[.int .i64 p1, .int .i64 p2] 46) ∨ V = w2) → (V.cell? ⟨w.heap.size + 1 + 1, 1, none⟩ = some (.slice a l.length c) ∧ V.cell? ⟨w.heap.size, 1, none⟩ = some (.slice (some ⟨b, o, none⟩) es.length ca) ∧ V.cell? ⟨b, o + i * 2, none⟩ = some (.int .i64 p1) ∧ V.cell? ⟨b, o + i * 2 + 1, none⟩ = some (.int .i64 p2))) := fun V hV => by
          rcases hV with rfl | rfl | rfl
          · exact HS.out _ ((Below.refl _ _).drew)
          · exact HS.out _ hbU
          · exact hS10
        have HKF : Hid (w2.frozen? ⟨w.heap.size + 1 + 1, 1, none⟩ = false) := hf10
        have HW10 : Hid (Wo9 w n (some ⟨b, o, none⟩) ca es (.slice vo10 (l.length + 1) vc10) (l ++ [(p1, p2)]) (w2.setCell ⟨w.heap.size + 1 + 1, 1, none⟩ (.slice vo10 (l.length + 1) vc10))) := by
          rw [← hv']
          exact hW10
        clear hH hq hl hie hbU r1 r2 hS10 hf10 hW10 HPU
        go_wp2_with fail
        refine wp_region_any (by kernel_rfl) ?_
        refine AnyOrd.anyP (fun j => match j with | 0 => .pointer (some ⟨w.heap.size + 1 + 1, 1, none⟩) | 1 => .slice a l.length c | 2 => .pointer (some ⟨w.heap.size, 1, none⟩) | 3 => .slice (some ⟨b, o, none⟩) es.length ca | 4 => .int .i64 (i : Int) | 5 => .pointer (some ⟨b, o + i * 2, none⟩) | 6 => .agg #[.int .i64 p1, .int .i64 p2] | 7 => .slice (some ⟨wr.heap.size, 0, none⟩) 1 1 | 8 => v' | 9 => .pointer (some ⟨w.heap.size + 1 + 1, 1, none⟩) | _ => undef) (BlE.psC wr.drew (wr.drew.alloc (.cells #[.int .i64 p1, .int .i64 p2] 46)) w2 (w2.setCell ⟨w.heap.size + 1 + 1, 1, none⟩ v') 7 8 10) 31 rfl (by kernel_rfl) rfl ?_ ?_
        · intro j o' Ls V ev ho hLi hC haft hdc he1 he2 hec hef
          have hc : j = 0 ∨ j = 1 ∨ j = 2 ∨ j = 3 ∨ j = 4 ∨ j = 5 ∨ j = 6 ∨ j = 7 ∨ j = 8 ∨ j = 9 ∨ j = 10 := by
            have : j < 11 := (Array.getElem?_eq_some_iff.1 ho).1
            omega
          have h10 : Ls 10 = false := by
            cases h : Ls 10 with
            | false => rfl
            | true =>
              exfalso
              have hq : Ls j = true := by
                rcases hc with rfl | rfl | rfl | rfl | rfl | rfl | rfl | rfl | rfl | rfl | rfl
                · exact hdc 10 _ rfl h ⟨0, .phase⟩ (by simp) rfl
                · exact hdc 10 _ rfl h ⟨1, .phase⟩ (by simp) rfl
                · exact hdc 10 _ rfl h ⟨2, .phase⟩ (by simp) rfl
                · exact hdc 10 _ rfl h ⟨3, .phase⟩ (by simp) rfl
                · exact hdc 10 _ rfl h ⟨4, .phase⟩ (by simp) rfl
                · exact hdc 10 _ rfl h ⟨5, .phase⟩ (by simp) rfl
                · exact hdc 10 _ rfl h ⟨6, .phase⟩ (by simp) rfl
                · exact hdc 10 _ rfl h ⟨7, .phase⟩ (by simp) rfl
                · exact hdc 10 _ rfl h ⟨8, .phase⟩ (by simp) rfl
                · exact hdc 10 _ rfl h ⟨9, .data⟩ (by simp) rfl
                · exact h
              rw [hLi] at hq
              cases hq
          have hcV : V = wr.drew ∨ V = (wr.drew.alloc (.cells #[.int .i64 p1, .int .i64 p2] 46)) ∨ V = w2 := by
            unfold BlE.psC at hC
            rw [h10] at hC
            simp only [Bool.false_eq_true, if_false] at hC
            split at hC
            · exact .inr (.inr hC)
            · split at hC
              · exact .inr (.inl hC)
              · exact .inl hC
          obtain ⟨k1, k2, k3, k4⟩ := HV.out V hcV
          have kf := HKF.out
          rcases hc with rfl | rfl | rfl | rfl | rfl | rfl | rfl | rfl | rfl | rfl | rfl <;> obtain rfl := Option.some.inj ho
          · have e1 : ev (.tmp 5) = .pointer (some ⟨w.heap.size + 1 + 1, 0, none⟩) := he2 5 (by kernel_rfl)
            exact AnyOrd.gives_value (v := .pointer (some ⟨w.heap.size + 1 + 1, 1, none⟩)) (w' := V) (by simp [execOp, go_sem, e1]) ⟨rfl, hC.other (by decide) (by decide) (by decide)⟩
          · have e1 : ev (.tmp 20) = .pointer (some ⟨w.heap.size + 1 + 1, 1, none⟩) := he1 0 20 (by omega) rfl (by decide)
            exact AnyOrd.gives_value (v := .slice a l.length c) (w' := V) (by simp [execOp, go_sem, e1, k1]) ⟨rfl, hC.other (by decide) (by decide) (by decide)⟩
          · have e1 : ev (.tmp 2) = .pointer (some ⟨w.heap.size, 0, none⟩) := he2 2 (by kernel_rfl)
            exact AnyOrd.gives_value (v := .pointer (some ⟨w.heap.size, 1, none⟩)) (w' := V) (by simp [execOp, go_sem, e1]) ⟨rfl, hC.other (by decide) (by decide) (by decide)⟩
          · have e1 : ev (.tmp 22) = .pointer (some ⟨w.heap.size, 1, none⟩) := he1 2 22 (by omega) rfl (by decide)
            exact AnyOrd.gives_value (v := .slice (some ⟨b, o, none⟩) es.length ca) (w' := V) (by simp [execOp, go_sem, e1, k2]) ⟨rfl, hC.other (by decide) (by decide) (by decide)⟩
          · have e1 : ev (.tmp 6) = .int .i64 (i : Int) := he2 6 (by kernel_rfl)
            exact AnyOrd.gives_value (v := .int .i64 (i : Int)) (w' := V) (by simp [execOp, go_sem, e1]) ⟨rfl, hC.other (by decide) (by decide) (by decide)⟩
          · have e1 : ev (.tmp 23) = .slice (some ⟨b, o, none⟩) es.length ca := he1 3 23 (by omega) rfl (by decide)
            have e2 : ev (.tmp 24) = .int .i64 (i : Int) := he1 4 24 (by omega) rfl (by decide)
            exact AnyOrd.gives_value (v := .pointer (some ⟨b, o + i * 2, none⟩)) (w' := V) (by simp [execOp, go_sem, e1, e2, hi0, hili]) ⟨rfl, hC.other (by decide) (by decide) (by decide)⟩
          · have e1 : ev (.tmp 25) = .pointer (some ⟨b, o + i * 2, none⟩) := he1 5 25 (by omega) rfl (by decide)
            exact AnyOrd.gives_value (v := .agg #[.int .i64 p1, .int .i64 p2]) (w' := V) (by simp [execOp, go_sem, e1, k3, k4]) ⟨rfl, hC.other (by decide) (by decide) (by decide)⟩
          · have e1 : ev (.tmp 26) = .agg #[.int .i64 p1, .int .i64 p2] := he1 6 26 (by omega) rfl (by decide)
            have h8 : Ls 8 = false := by
              cases h : Ls 8 with
              | false => rfl
              | true =>
                have : Ls 7 = true := hdc 8 _ rfl h ⟨7, .data⟩ (by simp) rfl
                rw [this] at hLi
                cases hLi
            obtain rfl : V = wr.drew := by
              unfold BlE.psC at hC
              rw [h10, h8, hLi] at hC
              exact hC
            refine AnyOrd.gives_value (v := .slice (some ⟨wr.heap.size, 0, none⟩) 1 1) (w' := (wr.drew.alloc (.cells #[.int .i64 p1, .int .i64 p2] 46))) (by simp [execOp, go_sem, e1]) ⟨rfl, ?_⟩
            unfold BlE.psC
            rw [show AnyOrd.updB Ls 7 10 = false from h10, show AnyOrd.updB Ls 7 8 = false from h8, show AnyOrd.updB Ls 7 7 = true from rfl]
            rfl
          · have e1 : ev (.tmp 21) = .slice a l.length c := he1 1 21 (by omega) rfl (by decide)
            have e2 : ev (.tmp 27) = .slice (some ⟨wr.heap.size, 0, none⟩) 1 1 := he1 7 27 (by omega) rfl (by decide)
            have h7 : Ls 7 = true := haft ⟨7, .data⟩ (by simp) rfl
            obtain rfl : V = (wr.drew.alloc (.cells #[.int .i64 p1, .int .i64 p2] 46)) := by
              unfold BlE.psC at hC
              rw [h10, hLi, h7] at hC
              exact hC
            refine AnyOrd.gives_value (v := v') (w' := w2) (hrun _ ev _ _ rfl rfl e1 e2) ⟨rfl, ?_⟩
            unfold BlE.psC
            rw [show AnyOrd.updB Ls 8 10 = false from h10, show AnyOrd.updB Ls 8 8 = true from rfl]
            rfl
          · have e1 : ev (.tmp 5) = .pointer (some ⟨w.heap.size + 1 + 1, 0, none⟩) := he2 5 (by kernel_rfl)
            exact AnyOrd.gives_value (v := .pointer (some ⟨w.heap.size + 1 + 1, 1, none⟩)) (w' := V) (by simp [execOp, go_sem, e1]) ⟨rfl, hC.other (by decide) (by decide) (by decide)⟩
          · have e1 : ev (.tmp 29) = .pointer (some ⟨w.heap.size + 1 + 1, 1, none⟩) := he1 9 29 (by omega) rfl (by decide)
            have e2 : ev (.tmp 28) = v' := he1 8 28 (by omega) rfl (by decide)
            have h8 : Ls 8 = true := haft ⟨8, .data⟩ (by simp) rfl
            obtain rfl : V = w2 := by
              unfold BlE.psC at hC
              rw [hLi, h8] at hC
              exact hC
            refine AnyOrd.gives_skip (w' := V.setCell ⟨w.heap.size + 1 + 1, 1, none⟩ v') (by rw [hv'] at e2 ⊢; simp [execOp, go_sem, e1, e2, k1, kf]) ⟨rfl, ?_⟩
            unfold BlE.psC
            rw [if_pos (show AnyOrd.updB Ls 10 10 = true from rfl)]
        · intro Ls V hall hC
          unfold BlE.psC at hC
          rw [if_pos (hall 10 (by decide))] at hC
          subst hC
          generalize hfr : AnyOrd.canon _ _ _ _ = fr
          have hfr2 : fr = { tmps := #[.agg #[.int .i64 n, .slice (some ⟨b, o, none⟩) es.length ca], .int .i64 (e : Int), .pointer (some ⟨w.heap.size, 0, none⟩), undef, .pointer (some ⟨w.heap.size + 1, 0, none⟩), .pointer (some ⟨w.heap.size + 1 + 1, 0, none⟩), .int .i64 (i : Int), .pointer (some ⟨w.heap.size, 0, none⟩), .int .i64 n, .agg #[.int .i64 n, .slice none 0 0], .int .i64 (i : Int), .pointer (some ⟨w.heap.size, 1, none⟩), .slice (some ⟨b, o, none⟩) es.length ca, .int .i64 (es.length : Int), .bool true, u15, u16, .int .i64 (i : Int), .int .i64 (e : Int), .bool true, .pointer (some ⟨w.heap.size + 1 + 1, 1, none⟩), .slice a l.length c, .pointer (some ⟨w.heap.size, 1, none⟩), .slice (some ⟨b, o, none⟩) es.length ca, .int .i64 (i : Int), .pointer (some ⟨b, o + i * 2, none⟩), .agg #[.int .i64 p1, .int .i64 p2], .slice (some ⟨wr.heap.size, 0, none⟩) 1 1, v', .pointer (some ⟨w.heap.size + 1 + 1, 1, none⟩), undef], defers := [] } := by rw [← hfr]; kernel_rfl
          subst hfr2
          clear hfr hall
          rw [hv']
          clear hv'
          go_wp2
          go_roundw
          case rel => exact ⟨i + 1, vo10, vc10, by omega, by go_num, by rw [HY.out, List.length_append]; exact HW10.out⟩
          case measure => simp [intOf]; omega
    · have hili : ¬ (i : Int) < (es.length : Int) := by omega
      obtain rfl : i = es.length := by omega
      obtain ⟨l, hl⟩ : ∃ l, (es.take es.length).eraseIdx e = l := ⟨_, rfl⟩
      have hle : es.eraseIdx e = l := by rw [← hl, List.take_length]
      rw [hl] at hH y1
      have H := Nu.hid hH
      obtain ⟨z0, z1, zf⟩ := pair_cells hH.ans
      have hsz := lt_of_block hH.ans
      have HLE := Nu.hid hle
      obtain ⟨w9, hw9⟩ : ∃ w9, w9 = (wr.setCell ⟨w.heap.size + 1, 0, none⟩ (.int .i64 n)).setCell ⟨w.heap.size + 1, 1, none⟩ (.slice a l.length c) := ⟨_, rfl⟩
      have HEND : Hid (EdgesAt w9 a l ∧ Below w.heap.size w w9) := by
        rw [hw9]
        constructor
        · have h1 : OwnE ((wr.setCell ⟨w.heap.size + 1, 0, none⟩ (.int .i64 n)).setCell ⟨w.heap.size + 1, 1, none⟩ (.slice a l.length c)) (w.heap.size + 1) (.slice a l.length c) l := hH.own.set2 (by omega) _ _
          obtain ⟨a', c', e1, _, _, h2, _⟩ := h1.form
          cases e1
          exact h2
        · exact (hH.g.low.setCell (p := ⟨w.heap.size + 1, 0, none⟩) (by simp) _).setCell (p := ⟨w.heap.size + 1, 1, none⟩) (by simp) _
      have q0 := (set_two z0 z1 (.int .i64 n) (.slice a l.length c)).1
      have q1 := (set_two z0 z1 (.int .i64 n) (.slice a l.length c)).2
      have HW9 := Nu.hid hw9
      clear hH hl hle hw9
      go_wp2
      refine bodyPost_ret (v := .agg #[.int .i64 n, .slice a l.length c]) ?_ ?_ ?_
      · simp [results, Tryz.results12, go_sem, z0, z1]
      · rfl
      rw [← HW9.out]
      rw [HLE.out]
      exact ⟨a, ⟨c, rfl⟩, HEND.out.1, HEND.out.2⟩

namespace Bl
theorem wo_yes {es : List (Int × Int)} {i : Nat} {x p1 p2 : Int} (hp : es[i]? = some (p1, p2)) (h1 : p1 ≠ x) (h2 : p2 ≠ x) : woE (es.take (i + 1)) x = woE (es.take i) x ++ [(p1, p2)] := by
  unfold woE
  rw [take_snoc9 hp, List.filter_append, List.filter_cons_of_pos (by simp [h1, h2])]
  rfl
theorem wo_no {es : List (Int × Int)} {i : Nat} {x p1 p2 : Int} (hp : es[i]? = some (p1, p2)) (h : p1 = x ∨ p2 = x) : woE (es.take (i + 1)) x = woE (es.take i) x := by
  unfold woE
  rw [take_snoc9 hp, List.filter_append, List.filter_cons_of_neg (by rcases h with h | h <;> simp [h])]
  simp
end Bl

set_option maxRecDepth 100000 in
set_option maxHeartbeats 16000000 in
theorem without9_any (n : Int) (ao : Option Addr) (ca : Nat) (es : List (Int × Int)) (x : Int) (w : World) (he : EdgesAt w ao es) (hfew : es.length ≤ 4194304) :
    Calls Tryz.prog 11 #[.agg #[.int .i64 n, .slice ao es.length ca], .int .i64 x] w fun r w' => ∃ a c, r = .returned (.agg #[.int .i64 n, .slice a (Bl.woE es x).length c]) ∧ EdgesAt w' a (Bl.woE es x) ∧ Below w.heap.size w w' := by
  obtain ⟨w3, hw3⟩ : ∃ w3, w3 = ((w.alloc (.cells #[.int .i64 n, .slice ao es.length ca] 24)).alloc (.cells #[.int .i64 0, .slice none 0 0] 24)).alloc (.cells #[.int .i64 n, .slice none 0 0] 24) := ⟨_, rfl⟩
  have H3 : Hid (Wo9 w n ao ca es (.slice none 0 0) (Bl.woE (es.take 0) x) w3) := by
    have hb1 : Below w.heap.size w (w.alloc (.cells #[.int .i64 n, .slice ao es.length ca] 24)) := (Below.refl _ _).alloc (Nat.le_refl _) _
    refine ⟨⟨he, ?_, ?_⟩, ?_, ?_, by simpa [Bl.woE] using OwnE.nil _ _⟩
    · rw [hw3]
      exact (hb1.alloc (by simp) _).alloc (by simp; omega) _
    · rw [hw3, Below.heap_alloc _ _ _ (by simp; omega), Below.heap_alloc _ _ _ (by simp)]
      exact heap_alloc_new w _
    · rw [hw3, Below.heap_alloc _ _ _ (by simp)]
      have := heap_alloc_new (w.alloc (.cells #[.int .i64 n, .slice ao es.length ca] 24)) (.cells #[.int .i64 0, .slice none 0 0] 24)
      rw [World.size_alloc] at this
      exact this
    · have := heap_alloc_new ((w.alloc (.cells #[.int .i64 n, .slice ao es.length ca] 24)).alloc (.cells #[.int .i64 0, .slice none 0 0] 24)) (.cells #[.int .i64 n, .slice none 0 0] 24)
      rw [World.size_alloc, World.size_alloc] at this
      rw [hw3]
      exact this
  have HW3 := Nu.hid hw3
  clear he hw3
  go_enter Tryz.func11, Tryz.ntmps11
  go_wp2
  rw [← HW3.out]
  go_loopw [6] (fun cv wr => ∃ (i : Nat) (a : Option Addr) (c : Nat), i ≤ es.length ∧ cv = .int .i64 (i : Int) ∧ Wo9 w n ao ca es (.slice a (Bl.woE (es.take i) x).length c) (Bl.woE (es.take i) x) wr) (fun cv _ => es.length - (intOf cv).toNat)
  case atStart => exact ⟨0, none, 0, Nat.zero_le _, rfl, by simpa [Bl.woE] using H3.out⟩
  case round =>
    clear H3 HW3
    obtain ⟨i, a, c, hil, rfl, hH⟩ := hrel
    have H := Nu.hid hH
    obtain ⟨x0, x1⟩ := hH.g.cells
    obtain ⟨y0, y1, yf⟩ := hH.cells
    by_cases hin : i < es.length
    · have hili : (i : Int) < (es.length : Int) := by omega
      have hi0 : (0 : Int) ≤ (i : Int) := by omega
      obtain ⟨⟨p1, p2⟩, hq⟩ : ∃ q, es[i]? = some q := ⟨_, List.getElem?_eq_getElem hin⟩
      obtain ⟨b, o, rfl, c0, c1⟩ := hH.g.edges i _ hq
      dsimp only at c0 c1
      by_cases hh : p1 = x
      · have hd : (p1 != x) = false := by simp [hh]
        have HY := Nu.hid (Bl.wo_no hq (.inl hh))
        clear hH hq hh
        go_wp2
        go_roundw
        case rel => exact ⟨i + 1, a, c, by omega, by go_num, by rw [HY.out]; exact H.out⟩
        case measure => simp [intOf]; omega
      by_cases hh2 : p2 = x
      · have hd : (p1 != x) = true := by simp [hh]
        have hd2 : (p2 != x) = false := by simp [hh2]
        have HY := Nu.hid (Bl.wo_no hq (.inr hh2))
        clear hH hq hh hh2
        go_wp2
        go_roundw
        case rel => exact ⟨i + 1, a, c, by omega, by go_num, by rw [HY.out]; exact H.out⟩
        case measure => simp [intOf]; omega
      · have hd : (p1 != x) = true := by simp [hh]
        have hd2 : (p2 != x) = true := by simp [hh2]
        have HY := Nu.hid (Bl.wo_yes hq hh hh2)
        have HQ := Nu.hid hq
        obtain ⟨l, hl⟩ : ∃ l, Bl.woE (es.take i) x = l := ⟨_, rfl⟩
        have hll : l.length ≤ 4194304 := by
          rw [← hl]
          exact Nat.le_trans (List.length_filter_le _ _) (by simp; omega)
        rw [hl] at H HY y1
        have HS : Hid (∀ U, Below wr.heap.size wr U → (U.cell? ⟨w.heap.size + 2, 1, none⟩ = some (.slice a l.length c) ∧ U.cell? ⟨w.heap.size, 1, none⟩ = some (.slice (some ⟨b, o, none⟩) es.length ca) ∧ U.cell? ⟨b, o + i * 2, none⟩ = some (.int .i64 p1) ∧ U.cell? ⟨b, o + i * 2 + 1, none⟩ = some (.int .i64 p2))) := fun U hU => by
          have h1 := H.out.later hU
          exact ⟨h1.cells.2.1, h1.g.cells.2, (hU.cell (p := ⟨b, o + i * 2, none⟩) (block_lt_of_cell c0)).trans c0, (hU.cell (p := ⟨b, o + i * 2 + 1, none⟩) (block_lt_of_cell c1)).trans c1⟩
        have HO : Hid (∀ U, Below wr.heap.size wr U → OwnE U (w.heap.size + 3) (.slice a l.length c) l ∧ w.heap.size + 3 ≤ U.heap.size) := fun U hU => ⟨(H.out.later hU).own, by have := lt_of_block (H.out.later hU).box; omega⟩
        have HPU : Hid (∀ U v' w', Below wr.heap.size wr U → OwnE w' (w.heap.size + 3) v' (l ++ [(p1, p2)]) → U.grownBy w' (Value.slice a l.length c).ownBlock → (w'.cell? ⟨w.heap.size + 2, 1, none⟩ = some (.slice a l.length c) ∧ w'.cell? ⟨w.heap.size, 1, none⟩ = some (.slice (some ⟨b, o, none⟩) es.length ca) ∧ w'.cell? ⟨b, o + i * 2, none⟩ = some (.int .i64 p1) ∧ w'.cell? ⟨b, o + i * 2 + 1, none⟩ = some (.int .i64 p2)) ∧ w'.frozen? ⟨w.heap.size + 2, 1, none⟩ = false ∧ (∃ vo vc, v' = .slice vo (l.length + 1) vc) ∧ Wo9 w n (some ⟨b, o, none⟩) ca es v' (l ++ [(p1, p2)]) (w'.setCell ⟨w.heap.size + 2, 1, none⟩ v')) := fun U v' w' hU h1 h2 => by
          have h3 := H.out.later hU
          obtain ⟨k1, k2, k3⟩ := h3.push h1 h2
          have k4 := h3.grown h2
          obtain ⟨b', o', eb, d0, d1⟩ := k4.edges i _ HQ.out
          cases eb
          obtain ⟨vo, vc, ev, _⟩ := h1.form
          rw [List.length_append] at ev
          exact ⟨⟨k2, k4.cells.2, d0, d1⟩, k3, ⟨vo, vc, ev⟩, k1⟩
        have hbU : Below wr.heap.size wr (wr.drew.alloc (.cells #[.int .i64 p1, .int .i64 p2] 46)) := ((Below.refl wr.heap.size wr).drew).alloc (Nat.le_refl _) _
        obtain ⟨v', w2, hrun, r1, r2⟩ := run_pushE (w.heap.size + 3) (.slice a l.length c) l p1 p2 (HO.out _ hbU).1 (HO.out _ hbU).2 wr.heap.size (heap_alloc_new wr.drew _) (by omega)
        obtain ⟨hS10, hf10, ⟨vo10, vc10, hv'⟩, hW10⟩ := HPU.out _ v' w2 hbU r1 r2
        have HV : Hid (∀ V, (V = wr.drew ∨ V = wr.drew.alloc (.cells #[.int .i64 p1, .int .i64 p2] 46) ∨ V = w2) → (V.cell? ⟨w.heap.size + 1 + 1, 1, none⟩ = some (.slice a l.length c) ∧ V.cell? ⟨w.heap.size, 1, none⟩ = some (.slice (some ⟨b, o, none⟩) es.length ca) ∧ V.cell? ⟨b, o + i * 2, none⟩ = some (.int .i64 p1) ∧ V.cell? ⟨b, o + i * 2 + 1, none⟩ = some (.int .i64 p2))) := fun V hV => by
          rcases hV with rfl | rfl | rfl
          · exact HS.out _ ((Below.refl _ _).drew)
          · exact HS.out _ hbU
          · exact hS10
        have HKF : Hid (w2.frozen? ⟨w.heap.size + 1 + 1, 1, none⟩ = false) := hf10
        have HW10 : Hid (Wo9 w n (some ⟨b, o, none⟩) ca es (.slice vo10 (l.length + 1) vc10) (l ++ [(p1, p2)]) (w2.setCell ⟨w.heap.size + 1 + 1, 1, none⟩ (.slice vo10 (l.length + 1) vc10))) := by
          rw [← hv']
          exact hW10
        clear hH hq hl hh hh2 hbU r1 r2 hS10 hf10 hW10 HPU
        go_wp2_with fail
        refine wp_region_any (by kernel_rfl) ?_
        refine AnyOrd.anyP (fun j => match j with | 0 => .pointer (some ⟨w.heap.size + 1 + 1, 1, none⟩) | 1 => .slice a l.length c | 2 => .pointer (some ⟨w.heap.size, 1, none⟩) | 3 => .slice (some ⟨b, o, none⟩) es.length ca | 4 => .int .i64 (i : Int) | 5 => .pointer (some ⟨b, o + i * 2, none⟩) | 6 => .agg #[.int .i64 p1, .int .i64 p2] | 7 => .slice (some ⟨wr.heap.size, 0, none⟩) 1 1 | 8 => v' | 9 => .pointer (some ⟨w.heap.size + 1 + 1, 1, none⟩) | _ => undef) (BlE.psC wr.drew (wr.drew.alloc (.cells #[.int .i64 p1, .int .i64 p2] 46)) w2 (w2.setCell ⟨w.heap.size + 1 + 1, 1, none⟩ v') 7 8 10) 46 rfl (by kernel_rfl) rfl ?_ ?_
        · intro j o' Ls V ev ho hLi hC haft hdc he1 he2 hec hef
          have hc : j = 0 ∨ j = 1 ∨ j = 2 ∨ j = 3 ∨ j = 4 ∨ j = 5 ∨ j = 6 ∨ j = 7 ∨ j = 8 ∨ j = 9 ∨ j = 10 := by
            have : j < 11 := (Array.getElem?_eq_some_iff.1 ho).1
            omega
          have h10 : Ls 10 = false := by
            cases h : Ls 10 with
            | false => rfl
            | true =>
              exfalso
              have hq : Ls j = true := by
                rcases hc with rfl | rfl | rfl | rfl | rfl | rfl | rfl | rfl | rfl | rfl | rfl
                · exact hdc 10 _ rfl h ⟨0, .phase⟩ (by simp) rfl
                · exact hdc 10 _ rfl h ⟨1, .phase⟩ (by simp) rfl
                · exact hdc 10 _ rfl h ⟨2, .phase⟩ (by simp) rfl
                · exact hdc 10 _ rfl h ⟨3, .phase⟩ (by simp) rfl
                · exact hdc 10 _ rfl h ⟨4, .phase⟩ (by simp) rfl
                · exact hdc 10 _ rfl h ⟨5, .phase⟩ (by simp) rfl
                · exact hdc 10 _ rfl h ⟨6, .phase⟩ (by simp) rfl
                · exact hdc 10 _ rfl h ⟨7, .phase⟩ (by simp) rfl
                · exact hdc 10 _ rfl h ⟨8, .phase⟩ (by simp) rfl
                · exact hdc 10 _ rfl h ⟨9, .data⟩ (by simp) rfl
                · exact h
              rw [hLi] at hq
              cases hq
          have hcV : V = wr.drew ∨ V = (wr.drew.alloc (.cells #[.int .i64 p1, .int .i64 p2] 46)) ∨ V = w2 := by
            unfold BlE.psC at hC
            rw [h10] at hC
            simp only [Bool.false_eq_true, if_false] at hC
            split at hC
            · exact .inr (.inr hC)
            · split at hC
              · exact .inr (.inl hC)
              · exact .inl hC
          obtain ⟨k1, k2, k3, k4⟩ := HV.out V hcV
          have kf := HKF.out
          rcases hc with rfl | rfl | rfl | rfl | rfl | rfl | rfl | rfl | rfl | rfl | rfl <;> obtain rfl := Option.some.inj ho
          · have e1 : ev (.tmp 5) = .pointer (some ⟨w.heap.size + 1 + 1, 0, none⟩) := he2 5 (by kernel_rfl)
            exact AnyOrd.gives_value (v := .pointer (some ⟨w.heap.size + 1 + 1, 1, none⟩)) (w' := V) (by simp [execOp, go_sem, e1]) ⟨rfl, hC.other (by decide) (by decide) (by decide)⟩
          · have e1 : ev (.tmp 35) = .pointer (some ⟨w.heap.size + 1 + 1, 1, none⟩) := he1 0 35 (by omega) rfl (by decide)
            exact AnyOrd.gives_value (v := .slice a l.length c) (w' := V) (by simp [execOp, go_sem, e1, k1]) ⟨rfl, hC.other (by decide) (by decide) (by decide)⟩
          · have e1 : ev (.tmp 2) = .pointer (some ⟨w.heap.size, 0, none⟩) := he2 2 (by kernel_rfl)
            exact AnyOrd.gives_value (v := .pointer (some ⟨w.heap.size, 1, none⟩)) (w' := V) (by simp [execOp, go_sem, e1]) ⟨rfl, hC.other (by decide) (by decide) (by decide)⟩
          · have e1 : ev (.tmp 37) = .pointer (some ⟨w.heap.size, 1, none⟩) := he1 2 37 (by omega) rfl (by decide)
            exact AnyOrd.gives_value (v := .slice (some ⟨b, o, none⟩) es.length ca) (w' := V) (by simp [execOp, go_sem, e1, k2]) ⟨rfl, hC.other (by decide) (by decide) (by decide)⟩
          · have e1 : ev (.tmp 6) = .int .i64 (i : Int) := he2 6 (by kernel_rfl)
            exact AnyOrd.gives_value (v := .int .i64 (i : Int)) (w' := V) (by simp [execOp, go_sem, e1]) ⟨rfl, hC.other (by decide) (by decide) (by decide)⟩
          · have e1 : ev (.tmp 38) = .slice (some ⟨b, o, none⟩) es.length ca := he1 3 38 (by omega) rfl (by decide)
            have e2 : ev (.tmp 39) = .int .i64 (i : Int) := he1 4 39 (by omega) rfl (by decide)
            exact AnyOrd.gives_value (v := .pointer (some ⟨b, o + i * 2, none⟩)) (w' := V) (by simp [execOp, go_sem, e1, e2, hi0, hili]) ⟨rfl, hC.other (by decide) (by decide) (by decide)⟩
          · have e1 : ev (.tmp 40) = .pointer (some ⟨b, o + i * 2, none⟩) := he1 5 40 (by omega) rfl (by decide)
            exact AnyOrd.gives_value (v := .agg #[.int .i64 p1, .int .i64 p2]) (w' := V) (by simp [execOp, go_sem, e1, k3, k4]) ⟨rfl, hC.other (by decide) (by decide) (by decide)⟩
          · have e1 : ev (.tmp 41) = .agg #[.int .i64 p1, .int .i64 p2] := he1 6 41 (by omega) rfl (by decide)
            have h8 : Ls 8 = false := by
              cases h : Ls 8 with
              | false => rfl
              | true =>
                have : Ls 7 = true := hdc 8 _ rfl h ⟨7, .data⟩ (by simp) rfl
                rw [this] at hLi
                cases hLi
            obtain rfl : V = wr.drew := by
              unfold BlE.psC at hC
              rw [h10, h8, hLi] at hC
              exact hC
            refine AnyOrd.gives_value (v := .slice (some ⟨wr.heap.size, 0, none⟩) 1 1) (w' := (wr.drew.alloc (.cells #[.int .i64 p1, .int .i64 p2] 46))) (by simp [execOp, go_sem, e1]) ⟨rfl, ?_⟩
            unfold BlE.psC
            rw [show AnyOrd.updB Ls 7 10 = false from h10, show AnyOrd.updB Ls 7 8 = false from h8, show AnyOrd.updB Ls 7 7 = true from rfl]
            rfl
          · have e1 : ev (.tmp 36) = .slice a l.length c := he1 1 36 (by omega) rfl (by decide)
            have e2 : ev (.tmp 42) = .slice (some ⟨wr.heap.size, 0, none⟩) 1 1 := he1 7 42 (by omega) rfl (by decide)
            have h7 : Ls 7 = true := haft ⟨7, .data⟩ (by simp) rfl
            obtain rfl : V = (wr.drew.alloc (.cells #[.int .i64 p1, .int .i64 p2] 46)) := by
              unfold BlE.psC at hC
              rw [h10, hLi, h7] at hC
              exact hC
            refine AnyOrd.gives_value (v := v') (w' := w2) (hrun _ ev _ _ rfl rfl e1 e2) ⟨rfl, ?_⟩
            unfold BlE.psC
            rw [show AnyOrd.updB Ls 8 10 = false from h10, show AnyOrd.updB Ls 8 8 = true from rfl]
            rfl
          · have e1 : ev (.tmp 5) = .pointer (some ⟨w.heap.size + 1 + 1, 0, none⟩) := he2 5 (by kernel_rfl)
            exact AnyOrd.gives_value (v := .pointer (some ⟨w.heap.size + 1 + 1, 1, none⟩)) (w' := V) (by simp [execOp, go_sem, e1]) ⟨rfl, hC.other (by decide) (by decide) (by decide)⟩
          · have e1 : ev (.tmp 44) = .pointer (some ⟨w.heap.size + 1 + 1, 1, none⟩) := he1 9 44 (by omega) rfl (by decide)
            have e2 : ev (.tmp 43) = v' := he1 8 43 (by omega) rfl (by decide)
            have h8 : Ls 8 = true := haft ⟨8, .data⟩ (by simp) rfl
            obtain rfl : V = w2 := by
              unfold BlE.psC at hC
              rw [hLi, h8] at hC
              exact hC
            refine AnyOrd.gives_skip (w' := V.setCell ⟨w.heap.size + 1 + 1, 1, none⟩ v') (by rw [hv'] at e2 ⊢; simp [execOp, go_sem, e1, e2, k1, kf]) ⟨rfl, ?_⟩
            unfold BlE.psC
            rw [if_pos (show AnyOrd.updB Ls 10 10 = true from rfl)]
        · intro Ls V hall hC
          unfold BlE.psC at hC
          rw [if_pos (hall 10 (by decide))] at hC
          subst hC
          generalize hfr : AnyOrd.canon _ _ _ _ = fr
          have hfr2 : fr = { tmps := #[.agg #[.int .i64 n, .slice (some ⟨b, o, none⟩) es.length ca], .int .i64 x, .pointer (some ⟨w.heap.size, 0, none⟩), undef, .pointer (some ⟨w.heap.size + 1, 0, none⟩), .pointer (some ⟨w.heap.size + 1 + 1, 0, none⟩), .int .i64 (i : Int), .pointer (some ⟨w.heap.size, 0, none⟩), .int .i64 n, .agg #[.int .i64 n, .slice none 0 0], .int .i64 (i : Int), .pointer (some ⟨w.heap.size, 1, none⟩), .slice (some ⟨b, o, none⟩) es.length ca, .int .i64 (es.length : Int), .bool true, u15, u16, .pointer (some ⟨w.heap.size, 1, none⟩), .slice (some ⟨b, o, none⟩) es.length ca, .int .i64 (i : Int), .pointer (some ⟨b, o + i * 2, none⟩), .pointer (some ⟨b, o + i * 2, none⟩), .int .i64 p1, .int .i64 x, .bool true, .bool true, .pointer (some ⟨w.heap.size, 1, none⟩), .slice (some ⟨b, o, none⟩) es.length ca, .int .i64 (i : Int), .pointer (some ⟨b, o + i * 2, none⟩), .pointer (some ⟨b, o + i * 2 + 1, none⟩), .int .i64 p2, .int .i64 x, .bool true, .bool true, .pointer (some ⟨w.heap.size + 1 + 1, 1, none⟩), .slice a l.length c, .pointer (some ⟨w.heap.size, 1, none⟩), .slice (some ⟨b, o, none⟩) es.length ca, .int .i64 (i : Int), .pointer (some ⟨b, o + i * 2, none⟩), .agg #[.int .i64 p1, .int .i64 p2], .slice (some ⟨wr.heap.size, 0, none⟩) 1 1, v', .pointer (some ⟨w.heap.size + 1 + 1, 1, none⟩), undef], defers := [] } := by rw [← hfr]; kernel_rfl
          subst hfr2
          clear hfr hall
          rw [hv']
          clear hv'
          go_wp2
          go_roundw
          case rel => exact ⟨i + 1, vo10, vc10, by omega, by go_num, by rw [HY.out, List.length_append]; exact HW10.out⟩
          case measure => simp [intOf]; omega
    · have hili : ¬ (i : Int) < (es.length : Int) := by omega
      obtain rfl : i = es.length := by omega
      obtain ⟨l, hl⟩ : ∃ l, Bl.woE (es.take es.length) x = l := ⟨_, rfl⟩
      have hle : Bl.woE es x = l := by rw [← hl, List.take_length]
      rw [hl] at hH y1
      have H := Nu.hid hH
      obtain ⟨z0, z1, zf⟩ := pair_cells hH.ans
      have hsz := lt_of_block hH.ans
      have HLE := Nu.hid hle
      obtain ⟨w9, hw9⟩ : ∃ w9, w9 = (wr.setCell ⟨w.heap.size + 1, 0, none⟩ (.int .i64 n)).setCell ⟨w.heap.size + 1, 1, none⟩ (.slice a l.length c) := ⟨_, rfl⟩
      have HEND : Hid (EdgesAt w9 a l ∧ Below w.heap.size w w9) := by
        rw [hw9]
        constructor
        · have h1 : OwnE ((wr.setCell ⟨w.heap.size + 1, 0, none⟩ (.int .i64 n)).setCell ⟨w.heap.size + 1, 1, none⟩ (.slice a l.length c)) (w.heap.size + 1) (.slice a l.length c) l := hH.own.set2 (by omega) _ _
          obtain ⟨a', c', e1, _, _, h2, _⟩ := h1.form
          cases e1
          exact h2
        · exact (hH.g.low.setCell (p := ⟨w.heap.size + 1, 0, none⟩) (by simp) _).setCell (p := ⟨w.heap.size + 1, 1, none⟩) (by simp) _
      have q0 := (set_two z0 z1 (.int .i64 n) (.slice a l.length c)).1
      have q1 := (set_two z0 z1 (.int .i64 n) (.slice a l.length c)).2
      have HW9 := Nu.hid hw9
      clear hH hl hle hw9
      go_wp2
      refine bodyPost_ret (v := .agg #[.int .i64 n, .slice a l.length c]) ?_ ?_ ?_
      · simp [results, Tryz.results11, go_sem, z0, z1]
      · rfl
      rw [← HW9.out]
      rw [HLE.out]
      exact ⟨a, ⟨c, rfl⟩, HEND.out.1, HEND.out.2⟩
end Go.Proofs.YtalfpbalekbinaaGreat
