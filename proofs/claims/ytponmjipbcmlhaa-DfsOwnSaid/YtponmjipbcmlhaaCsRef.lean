/-
  The document's own Copy and Valid of graphs (layer 4's).
-/
import Derived.Test.YtponmjipbcmlhaaSiOwn
import Derived.Test.YtponmjipbcmlhaaSiValid
import Derived.Test.YtponmjipbcmlhaaKin
namespace Go.Proofs.Ytponmjipbcmlhaa
open Go.RowKit Go.Sort

/-- 'append([]api.Edge{}, xs...)': a copy in new memory. -/
theorem wpList_copyE {ops : Array Oper} {rest : List Oper} {o : Oper} {a : Act} {Q : Exit → Act → World → Prop} (hgd : o.guard = none) (s x : Operand)
    (ho : o.op = .call { callee := .builtin .append, args := #[s, x], argTypes := #[22, 22] }) (W : World) (ao : Option Addr) (cap : Nat) (es : List (Int × Int)) (hs : a.eval s = .slice (some ⟨W.heap.size, 0, none⟩) 0 0) (hx : a.eval x = .slice ao es.length cap)
    (he : EdgesAt W ao es) (hn : ao = none → cap = 0) (hl : es.length * 16 ≤ 140737488355328)
    (h : ∀ gb c w', OwnE w' W.heap.size (.slice (some ⟨gb, 0, none⟩) es.length c) es → W.heap.size ≤ gb → gb < w'.heap.size → Below W.heap.size W w' → wpList Try.prog ops Q rest (a.put o.dst (.slice (some ⟨gb, 0, none⟩) es.length c)) w') :
    wpList Try.prog ops Q (o :: rest) a (W.alloc (.cells #[] 39)) := by
  obtain ⟨i0, hi, hz0, hz1, hz2⟩ := info_parts Try.infoEdge
  have hown0 : (W.alloc (.cells #[] 39)).ownsRow W.heap.size 39 2 (.slice (some ⟨W.heap.size, 0, none⟩) 0 0) 0 [] := World.ownsRow_made W #[] 0 (Nat.le_refl _) (Nat.zero_le _) rfl
  have hb0 : Below W.heap.size W (W.alloc (.cells #[] 39)) := (Below.refl _ _).alloc (Nat.le_refl _) _
  cases ao with
  | none =>
    have hes : es = [] := by
      cases es with
      | nil => rfl
      | cons p es =>
        obtain ⟨b, o, e, _⟩ := he 0 p rfl
        cases e
    subst hes
    obtain rfl := hn rfl
    refine wpList_append_own_none hgd s x 22 ho W.heap.size 39 i0 2 Try.underlying22 hi _ 0 [] hs hown0 hx ?_
    exact h _ _ _ hown0 (Nat.le_refl _) (by simp) hb0
  | some y =>
    refine wpList_append_own _ hgd s x 22 ho W.heap.size 39 i0 (.agg #[.int .i64 0, .int .i64 0]) 2 16 Try.underlying22 hi hz0 hz1 hz2 rfl (by decide) _ 0 [] hs hown0 y es.length cap (flatE es) hx (flatE_length es) ?_ ?_ (by unfold maxLen; omega) (by omega) (by simp) ?_
    · intro j u hj
      have hjl := (List.getElem?_eq_some_iff.1 hj).1
      rw [flatE_length] at hjl
      obtain ⟨p, hp⟩ : ∃ p, es[j / 2]? = some p := ⟨_, List.getElem?_eq_getElem (by omega)⟩
      obtain ⟨b, o, e, c0, c1⟩ := he (j / 2) p hp
      cases e
      obtain ⟨f0, f1⟩ := flatE_at es (j / 2) p hp
      have ea : ((⟨b, o, none⟩ : Addr).add j) = ⟨b, o + j, none⟩ := by
        by_cases h0 : j = 0 <;> simp [Addr.add, h0]
      rw [ea]
      by_cases hm : j % 2 = 0
      · have e : j / 2 * 2 = j := by omega
        rw [e] at f0 c0
        rw [f0] at hj
        cases hj
        exact (hb0.cell (p := ⟨b, o + j, none⟩) (block_lt_of_cell c0)).trans c0
      · have e : j / 2 * 2 + 1 = j := by omega
        rw [e] at f1
        have e3 : o + j / 2 * 2 + 1 = o + j := by omega
        rw [e3] at c1
        rw [f1] at hj
        cases hj
        exact (hb0.cell (p := ⟨b, o + j, none⟩) (block_lt_of_cell c1)).trans c1
    · intro u hu
      unfold flatE at hu
      obtain ⟨p, _, hp⟩ := List.mem_flatMap.1 hu
      simp at hp
      rcases hp with rfl | rfl <;> rfl
    · intro v' w' hown' hg hiff
      rw [Nat.zero_add, List.nil_append] at hown'
      rcases hown'.2 with ⟨hnil, _⟩ | ⟨gb, c, cur, rfl, hgb, hh, hlc, _⟩
      · have := (hiff.1 hnil).1
        cases this
      · exact h gb c w' hown' hgb (lt_of_block hh) (hb0.grown hg (by simp) (fun q hq => by cases hq; exact Nat.le_refl _))

set_option maxRecDepth 100000 in
set_option maxHeartbeats 4000000 in
theorem r4copy_any (n : Int) (ao : Option Addr) (ca : Nat) (es : List (Int × Int)) (w : World) (he : EdgesAt w ao es) (hn : ao = none → ca = 0) (hl : es.length * 16 ≤ 140737488355328) :
    Calls Try.prog 15 #[graphVal n ao es.length ca] w fun e w' => ∃ gb c, e = .returned (.agg #[.int .i64 n, .slice (some ⟨gb, 0, none⟩) es.length c]) ∧ OwnE w' w.heap.size (.slice (some ⟨gb, 0, none⟩) es.length c) es ∧ Below w.heap.size w w' := by
  obtain ⟨W, hW⟩ : ∃ W, W = (w.alloc (.cells #[.int .i64 n, .slice ao es.length ca] 24)).alloc (.cells #[.int .i64 0, .slice none 0 0] 24) := ⟨_, rfl⟩
  have hB0 : Below w.heap.size w W := by rw [hW]; exact ((Below.refl _ _).alloc (Nat.le_refl _) _).alloc (by simp) _
  have hsz : W.heap.size = w.heap.size + 2 := by rw [hW]; simp
  have g1 : W.heap[w.heap.size]? = some (.cells #[.int .i64 n, .slice ao es.length ca] 24 (0, 0)) := by
    rw [hW, Below.heap_alloc _ _ _ (by simp)]
    exact heap_alloc_new w _
  have g2 : W.heap[w.heap.size + 1]? = some (.cells #[.int .i64 0, .slice none 0 0] 24 (0, 0)) := by
    rw [hW]
    have := heap_alloc_new (w.alloc (.cells #[.int .i64 n, .slice ao es.length ca] 24)) (.cells #[.int .i64 0, .slice none 0 0] 24)
    simpa using this
  have HE := Nu.hid (he.later hB0)
  have HB0 := Nu.hid hB0
  have HG1 := Nu.hid g1
  have HG2 := Nu.hid g2
  have HN := Nu.hid hn
  have HSZ := Nu.hid hsz
  clear he hB0 hsz g1 g2 hn
  unfold graphVal
  go_enter Try.func15, Try.ntmps15
  go_wp2_with (at_builtin; rw [← hW]; refine Hid.out ?_)
  refine Nu.hid ?_
  refine wpList_copyE rfl _ _ rfl W ao ca es (by show Value.slice (some ⟨w.heap.size + 1 + 1, 0, none⟩) 0 0 = _; rw [HSZ.out]) rfl HE.out HN.out hl ?_
  intro gb c w1 hown hgb hlt hb
  have hsW := HSZ.out
  have k1 := (hb.block _ (by omega)).trans HG1.out
  have k2 := (hb.block _ (by omega)).trans HG2.out
  obtain ⟨a0, a1, af⟩ := pair_cells k1
  obtain ⟨b0, b1, bf⟩ := pair_cells k2
  have k3 : (w1.setCell ⟨w.heap.size, 1, none⟩ (.slice (some ⟨gb, 0, none⟩) es.length c)).heap[w.heap.size]? = some (.cells #[.int .i64 n, .slice (some ⟨gb, 0, none⟩) es.length c] 24 (0, 0)) := by
    rw [heap_setCell_same w1 w.heap.size 1 _ _ _ k1]
    simp
  have k4 : (w1.setCell ⟨w.heap.size, 1, none⟩ (.slice (some ⟨gb, 0, none⟩) es.length c)).heap[w.heap.size + 1]? = some (.cells #[.int .i64 0, .slice none 0 0] 24 (0, 0)) := (heap_setCell_other w1 ⟨w.heap.size, 1, none⟩ (w.heap.size + 1) _ (by show w.heap.size + 1 ≠ w.heap.size; omega)).trans k2
  obtain ⟨e0, e1, ef⟩ := pair_cells k3
  obtain ⟨f0, f1, ff⟩ := pair_cells k4
  have hgr := pair_set k4 (.int .i64 n) (.slice (some ⟨gb, 0, none⟩) es.length c)
  obtain ⟨r0, r1, -⟩ := pair_cells hgr
  have hown1 : OwnE (w1.setCell ⟨w.heap.size, 1, none⟩ (.slice (some ⟨gb, 0, none⟩) es.length c)) (w.heap.size + 2) (.slice (some ⟨gb, 0, none⟩) es.length c) es := by
    rw [hsW] at hown
    refine ⟨hown.1, ?_⟩
    rcases hown.2 with h | ⟨g, cap, cur, e, hgB, hh, hr⟩
    · exact .inl h
    · exact .inr ⟨g, cap, cur, e, hgB, (heap_setCell_other w1 ⟨w.heap.size, 1, none⟩ g _ (by show g ≠ w.heap.size; omega)).trans hh, hr⟩
  have HOWN := Nu.hid (hown1.set2 (A := w.heap.size) (b := w.heap.size + 1) (by omega) (.int .i64 n) (.slice (some ⟨gb, 0, none⟩) es.length c))
  have HBZ := Nu.hid ((((HB0.out.trans (hb.mono HB0.out.size)).setCell (p := ⟨w.heap.size, 1, none⟩) (Nat.le_refl _) (.slice (some ⟨gb, 0, none⟩) es.length c)).setCell (p := ⟨w.heap.size + 1, 0, none⟩) (by show w.heap.size ≤ w.heap.size + 1; omega) (.int .i64 n)).setCell (p := ⟨w.heap.size + 1, 1, none⟩) (by show w.heap.size ≤ w.heap.size + 1; omega) (.slice (some ⟨gb, 0, none⟩) es.length c))
  have HR0 := Nu.hid r0
  have HR1 := Nu.hid r1
  clear hown hb k1 k2 k3 k4 hgr hown1 r0 r1 hsW hW
  go_wp2
  refine bodyPost_ret (v := .agg #[.int .i64 n, .slice (some ⟨gb, 0, none⟩) es.length c]) (by simp [results, Try.results15, go_sem, HR0.out, HR1.out]) rfl ?_
  exact ⟨gb, c, rfl, HOWN.out, HBZ.out⟩

end Go.Proofs.Ytponmjipbcmlhaa
