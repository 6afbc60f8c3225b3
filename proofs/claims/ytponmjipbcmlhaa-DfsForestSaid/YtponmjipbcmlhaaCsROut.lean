/-
  The document's own Out: by vertex, the half-edges that leave it, as lists.
-/
import Derived.Test.YtponmjipbcmlhaaCsGet2
import Derived.Test.YtponmjipbcmlhaaSiValid
import Derived.Test.YtponmjipbcmlhaaMgC
import Derived.Maps.AppendAt
namespace Go.Proofs.Ytponmjipbcmlhaa
open Go.RowKit Go.Sort

/-- The half-edges below j that leave a vertex, as ints. -/
def Cs.outm (es : List (Int × Int)) (a j : Nat) : List Int := (Cs.out es a j).map fun i : Nat => (i : Int)

/-- Block G holds the slices vs, each a row of its own: by vertex the half-edges below j. -/
structure RowsO (w : World) (G : Nat) (vs : List Value) (es : List (Int × Int)) (j : Nat) : Prop where
  blk : w.heap[G]? = some (.cells vs.toArray 26 (0, 0))
  row : ∀ (u : Nat) (v : Value), vs[u]? = some v → w.ownsRow (G + 1) 3 1 v (Cs.outm es u j).length ((Cs.outm es u j).map (Value.int .i64))
  apart : ∀ (u u' : Nat) (v v' : Value) (b : Nat), u ≠ u' → vs[u]? = some v → vs[u']? = some v' → v.ownBlock = some b → v'.ownBlock ≠ some b

theorem RowsO.lt {w : World} {G : Nat} {vs : List Value} {es : List (Int × Int)} {j : Nat} (h : RowsO w G vs es j) : G < w.heap.size := lt_of_block h.blk

theorem RowsO.cell {w : World} {G : Nat} {vs : List Value} {es : List (Int × Int)} {j u : Nat} {v : Value} (h : RowsO w G vs es j) (hv : vs[u]? = some v) : w.cell? ⟨G, u, none⟩ = some v := by
  simp [World.cell?, h.blk, hv]

theorem RowsO.free {w : World} {G : Nat} {vs : List Value} {es : List (Int × Int)} {j : Nat} (h : RowsO w G vs es j) (u : Nat) : w.frozen? ⟨G, u, none⟩ = false := by
  simp [World.frozen?, h.blk]

theorem row_later {w w' : World} {B p : Nat} {e : TypeId} {u : Value} {xs : List Value} (h : w.ownsRow B e 1 u p xs) (hb : ∀ g, u.ownBlock = some g → g < w.heap.size → w'.heap[g]? = w.heap[g]?) : w'.ownsRow B e 1 u p xs := by
  refine ⟨h.1, ?_⟩
  rcases h.2 with h | ⟨g, cap, cur, e1, hgB, hh, hr⟩
  · exact .inl h
  · exact .inr ⟨g, cap, cur, e1, hgB, (hb g (by rw [e1]; rfl) (lt_of_block hh)).trans hh, hr⟩

theorem RowsO.later {w w' : World} {G : Nat} {vs : List Value} {es : List (Int × Int)} {j : Nat} (h : RowsO w G vs es j) (hb : Below w.heap.size w w') : RowsO w' G vs es j :=
  ⟨(hb.block G h.lt).trans h.blk, fun u v hv => row_later (h.row u v hv) (fun g _ hg => hb.block g hg), h.apart⟩

theorem RowsO.put {W w1 : World} {G : Nat} {vs : List Value} {es : List (Int × Int)} {j : Nat} {v v' : Value} {tmp : Obj} (h : RowsO W G vs es j) (hv : vs[Cs.fr es j]? = some v)
    (hown : w1.ownsRow (G + 1) 3 1 v' ((Cs.outm es (Cs.fr es j) j).length + 1) ((Cs.outm es (Cs.fr es j) j).map (Value.int .i64) ++ [.int .i64 (j : Int)])) (hgrow : (W.alloc tmp).grownBy w1 v.ownBlock) (hat : v'.ownBlock = v.ownBlock ∨ v'.ownBlock = some (W.heap.size + 1)) :
    w1.cell? ⟨G, Cs.fr es j, none⟩ = some v ∧ w1.frozen? ⟨G, Cs.fr es j, none⟩ = false ∧ RowsO (w1.setCell ⟨G, Cs.fr es j, none⟩ v') G (vs.set (Cs.fr es j) v') es (j + 1) ∧ Below G W (w1.setCell ⟨G, Cs.fr es j, none⟩ v') := by
  obtain ⟨u, hu⟩ : ∃ u, u = Cs.fr es j := ⟨_, rfl⟩
  rw [← hu] at hv hown ⊢
  have hlt := h.lt
  have hul := (List.getElem?_eq_some_iff.1 hv).1
  have hfar : ∀ g, v.ownBlock = some g → G + 1 ≤ g := fun g hg => by
    rcases (h.row u v hv).2 with ⟨rfl, _⟩ | ⟨g', cap, cur, rfl, hb, _, _⟩
    · simp [Value.ownBlock] at hg
    · obtain rfl : g' = g := by simpa [Value.ownBlock] using hg
      exact hb
  have hG1 : w1.heap[G]? = some (.cells vs.toArray 26 (0, 0)) := by
    rw [hgrow.block G (by rw [World.size_alloc]; omega) (fun e => by have := hfar G e.symm; omega)]
    exact (Below.heap_alloc W tmp G hlt).trans h.blk
  have hsz : W.heap.size ≤ w1.heap.size := by
    have := hgrow.size
    rw [World.size_alloc] at this
    omega
  refine ⟨by simp [World.cell?, hG1, hv], by simp [World.frozen?, hG1], ⟨?_, fun a x ha => ?_, fun a a' x x' b hne ha ha' hb => ?_⟩, ?_⟩
  · rw [heap_setCell_same w1 G u _ _ _ hG1]
    simp
  · rw [List.getElem?_set] at ha
    by_cases e : u = a
    · subst e
      rw [if_pos rfl, if_pos hul] at ha
      cases ha
      have e1 : Cs.outm es u (j + 1) = Cs.outm es u j ++ [(j : Int)] := by
        unfold Cs.outm
        conv => lhs; arg 2; unfold Cs.out
        rw [if_pos hu.symm]
        simp
      rw [e1, List.map_append, List.length_append]
      refine row_later hown (fun g hg _ => heap_setCell_other w1 ⟨G, u, none⟩ g _ ?_)
      show g ≠ G
      rcases hat with e2 | e2
      · rw [e2] at hg
        have := hfar g hg
        omega
      · rw [e2] at hg
        have := Option.some.inj hg
        omega
    · rw [if_neg e] at ha
      have e1 : Cs.outm es a (j + 1) = Cs.outm es a j := by
        unfold Cs.outm
        conv => lhs; arg 2; unfold Cs.out
        rw [if_neg (fun h => e (hu.trans h))]
      rw [e1]
      have hr := h.row a x ha
      refine row_later hr (fun g hg hgl => ?_)
      have hgB : G + 1 ≤ g := by
        rcases hr.2 with ⟨rfl, _⟩ | ⟨g', cap, cur, rfl, hb, _, _⟩
        · simp [Value.ownBlock] at hg
        · obtain rfl : g' = g := by simpa [Value.ownBlock] using hg
          exact hb
      rw [heap_setCell_other w1 ⟨G, u, none⟩ g _ (by show g ≠ G; omega), hgrow.block g (by rw [World.size_alloc]; omega) (fun e2 => h.apart u a v x g e hv ha e2.symm hg)]
      exact Below.heap_alloc W tmp g hgl
  · rw [List.getElem?_set] at ha ha'
    by_cases e : u = a
    · subst e
      rw [if_pos rfl, if_pos hul] at ha
      cases ha
      rw [if_neg hne] at ha'
      rcases hat with e2 | e2
      · rw [e2] at hb
        exact h.apart u a' v x' b hne hv ha' hb
      · rw [e2] at hb
        have hbs := Option.some.inj hb
        intro hc
        rcases (h.row a' x' ha').2 with ⟨rfl, _⟩ | ⟨g', cap, cur, rfl, _, hh, _⟩
        · simp [Value.ownBlock] at hc
        · have : g' = b := by simpa [Value.ownBlock] using hc
          have := lt_of_block hh
          omega
    · rw [if_neg e] at ha
      by_cases e' : u = a'
      · subst e'
        rw [if_pos rfl, if_pos hul] at ha'
        cases ha'
        intro hc
        rcases hat with e2 | e2
        · rw [e2] at hc
          exact h.apart u a v x b (Ne.symm hne) hv ha hc hb
        · rw [e2] at hc
          have hbs := Option.some.inj hc
          rcases (h.row a x ha).2 with ⟨rfl, _⟩ | ⟨g', cap, cur, rfl, _, hh, _⟩
          · simp [Value.ownBlock] at hb
          · have : g' = b := by simpa [Value.ownBlock] using hb
            have := lt_of_block hh
            omega
      · rw [if_neg e'] at ha'
        exact h.apart a a' x x' b hne ha ha' hb
  · refine ⟨hgrow.os, hgrow.tape, hgrow.output, by simpa using hsz, fun k hk => ?_⟩
    rw [heap_setCell_other w1 ⟨G, u, none⟩ k _ (by show k ≠ G; omega), hgrow.block k (by rw [World.size_alloc]; omega) (fun e => by have := hfar k e.symm; omega)]
    exact Below.heap_alloc W tmp k (by omega)

theorem made_rows (n : Nat) : (madeCells #[.slice none 0 0] n) = (List.replicate n (Value.slice none 0 0)).toArray := by
  apply Array.ext'
  rw [toList_madeCells_one]

def ROutPost (n : Nat) (es : List (Int × Int)) (w : World) (e : Ending) (w' : World) : Prop :=
  ∃ (G : Nat) (vs : List Value), e = .returned (.slice (some ⟨G, 0, none⟩) n n) ∧ vs.length = n ∧ RowsO w' G vs es (2 * es.length) ∧ w.heap.size ≤ G ∧ Below w.heap.size w w'

set_option maxRecDepth 100000 in
set_option maxHeartbeats 8000000 in
theorem rout_any (n : Nat) (ao : Option Addr) (ca : Nat) (es : List (Int × Int)) (w : World) (he : EdgesAt w ao es) (hv : Si.Val n es) :
    Calls Try.prog 26 #[.agg #[.int .i64 (n : Int), .slice ao es.length ca]] w (ROutPost n es w) := by
  obtain ⟨i0, hi, hz0, hz1, hz2⟩ := info_parts Try.infoNum
  obtain ⟨i1, hi1, hy0, hy1, hy2⟩ := info_parts Try.infoRow
  have hfew := hv.few
  have hhi := hv.hi
  have HE := Nu.hid he
  have HV := Nu.hid hv
  have hmk : ∀ W, (Instr.makeSlice 49 (.int .i64 (n : Int)) (.int .i64 (n : Int))).run Try.prog W = .ok (.slice (some ⟨W.heap.size, 0, none⟩) n n) (W.alloc (.cells (List.replicate n (Value.slice none 0 0)).toArray 26)) := fun W => by
    have := run_make (P := Try.prog) W 49 26 i1 (.slice none 0 0) Try.underlying49 hi1 hy0 .i64 .i64 (n : Int) (n : Int) (by omega) (Int.le_refl _) (by rw [hy2]; omega) (by omega)
    rw [this, hy1]
    simp [Value.cells, made_rows]
  clear he hv
  go_enter Try.func26, Try.ntmps26
  go_wp2
  clear hmk
  go_loopw [4] (fun cv wr => ∃ (k : Nat) (vs : List Value), k ≤ es.length ∧ cv = .int .i64 k ∧ vs.length = n ∧ RowsO wr (w.heap.size + 1) vs es (2 * k) ∧ wr.heap[w.heap.size]? = some (.cells #[.int .i64 (n : Int), .slice ao es.length ca] 24 (0, 0)) ∧ Below w.heap.size w wr) (fun cv _ => es.length - (intOf cv).toNat)
  case atStart =>
    refine ⟨0, List.replicate n (.slice none 0 0), Nat.zero_le _, rfl, by simp, ⟨?_, fun u v hu => ?_, fun u u' v v' b _ hu hu' hb => ?_⟩, ?_, ((Below.refl _ _).alloc (Nat.le_refl _) _).alloc (by simp) _⟩
    · have := heap_alloc_new (w.alloc (.cells #[.int .i64 (n : Int), .slice ao es.length ca] 24)) (.cells (List.replicate n (Value.slice none 0 0)).toArray 26)
      simpa using this
    · rw [List.getElem?_replicate] at hu
      split at hu
      · cases hu
        exact World.ownsRow_nil _ _ _ _
      · cases hu
    · rw [List.getElem?_replicate] at hu
      split at hu
      · cases hu
        simp [Value.ownBlock] at hb
      · cases hu
    · rw [Below.heap_alloc _ _ _ (by simp)]
      exact heap_alloc_new w _
  case round =>
    obtain ⟨k, vs, hk, rfl, hvl, hrows, hg, hb⟩ := hrel
    obtain ⟨x0, x1, -⟩ := pair_cells hg
    have hsg := lt_of_block hg
    have HROWS := Nu.hid hrows
    have HG := Nu.hid hg
    have HB := Nu.hid hb
    have hsr := hrows.lt
    by_cases hlt : k < es.length
    · have hlti : (k : Int) < (es.length : Int) := by omega
      have hk0 : (0 : Int) ≤ (k : Int) := by omega
      obtain ⟨e, hee⟩ : ∃ e, es[k]? = some e := ⟨_, List.getElem?_eq_getElem hlt⟩
      obtain ⟨b, o, rfl, c0, c1⟩ := (HE.out.later hb) k e hee
      have hok := HV.out.each k e hee
      unfold Si.ok at hok
      obtain ⟨eu, ev⟩ := e
      dsimp only at c0 c1 hok
      obtain ⟨u, rfl⟩ : ∃ u : Nat, eu = (u : Int) := ⟨eu.toNat, by omega⟩
      obtain ⟨v, rfl⟩ : ∃ v : Nat, ev = (v : Int) := ⟨ev.toNat, by omega⟩
      obtain ⟨f1, -⟩ := Cs.fr_even hee
      obtain ⟨f2, -⟩ := Cs.fr_odd hee
      dsimp only [Int.toNat_natCast] at f1 f2
      have F1 := Nu.hid f1
      have F2 := Nu.hid f2
      have u0 : (0 : Int) ≤ (u : Int) := by omega
      have v0 : (0 : Int) ≤ (v : Int) := by omega
      have un : (u : Int) < (n : Int) := by omega
      have vn : (v : Int) < (n : Int) := by omega
      clear hrows hg hb hee hok f1 f2
      go_wp2_with fail
      go_quiet (fail)
      obtain ⟨W, hW⟩ : ∃ W, W = wr.drewN nq := ⟨_, rfl⟩
      rw [← hW]
      have hR : RowsO W (w.heap.size + 1) vs es (2 * k) := by rw [hW]; exact HROWS.out.later (below_drewN (Below.refl _ _) nq)
      have HGW : Hid (W.heap[w.heap.size]? = some (.cells #[.int .i64 (n : Int), .slice (some ⟨b, o, none⟩) es.length ca] 24 (0, 0))) := by rw [hW]; exact HG.out
      have HBW : Hid (Below w.heap.size w W) := by rw [hW]; exact below_drewN HB.out nq
      clear hW x0 x1 c0 c1 HROWS HG HB
      have hsW := hR.lt
      obtain ⟨q1, hq1⟩ : ∃ q, vs[u]? = some q := ⟨_, List.getElem?_eq_getElem (by omega)⟩
      have cu := hR.cell hq1
      have hl1 := Cs.out_len_le (es := es) (v := u) (2 * k)
      have hrow1 := hR.row u q1 hq1
      obtain ⟨p1, hp1⟩ : ∃ p1, (Cs.outm es u (2 * k)).length = p1 := ⟨_, rfl⟩
      have hp1l : p1 ≤ 8388608 := by rw [← hp1]; unfold Cs.outm; rw [List.length_map]; omega
      rw [hp1] at hrow1
      have HROW1 := Nu.hid hrow1
      have HR := Nu.hid hR
      have HQ1 := Nu.hid hq1
      have HP1 := Nu.hid hp1
      clear hrow1 hR hq1 hp1 hl1
      go_wp2_with (at_builtin; refine wpList_append_own_at _ rfl _ _ 26 rfl (w.heap.size + 1 + 1) 3 i0 (.int .i64 0) 1 8 Try.underlying26 hi hz0 hz1 hz2 rfl (by decide) _ _ _ rfl (World.ownsRow.alloc HROW1.out _) ⟨W.heap.size, 0, none⟩ 1 1 [.int .i64 (2 * (k : Int))] rfl rfl (cell_one_new _ _ _) (by simp [Value.oneCell']) (by unfold maxLen; omega) (by omega) (by simp; omega) ?_; refine Hid.out ?_)
      refine Nu.hid ?_
      intro v1 w1 hown1 hgrow1 _ hat1
      obtain ⟨g1, cap1, hv1⟩ := own_succ hown1
      have hput1 := HR.out.put (v' := v1) (by rw [F1.out]; exact HQ1.out) (by rw [F1.out, HP1.out, show ((2 * k : Nat) : Int) = 2 * (k : Int) by omega]; exact hown1) hgrow1 hat1
      rw [F1.out] at hput1
      obtain ⟨cs1, fs1, hR1, hb1⟩ := hput1
      subst hv1
      have HB1 := Nu.hid (HBW.out.trans (hb1.mono (by omega)))
      have HG1 := Nu.hid ((hb1.block w.heap.size (by omega)).trans HGW.out)
      obtain ⟨X1, hX1⟩ : ∃ X1, X1 = w1.setCell ⟨w.heap.size + 1, u, none⟩ (.slice (some ⟨g1, 0, none⟩) (p1 + 1) cap1) := ⟨_, rfl⟩
      rw [← hX1] at hR1 HB1 HG1
      have hsX := hR1.lt
      obtain ⟨q2, hq2⟩ : ∃ q, (vs.set u (.slice (some ⟨g1, 0, none⟩) (p1 + 1) cap1))[v]? = some q := ⟨_, List.getElem?_eq_getElem (by simp; omega)⟩
      have cv := hR1.cell hq2
      have hl2 := Cs.out_len_le (es := es) (v := v) (2 * k + 1)
      have hrow2 := hR1.row v q2 hq2
      obtain ⟨p2, hp2⟩ : ∃ p2, (Cs.outm es v (2 * k + 1)).length = p2 := ⟨_, rfl⟩
      have hp2l : p2 ≤ 8388609 := by rw [← hp2]; unfold Cs.outm; rw [List.length_map]; omega
      rw [hp2] at hrow2
      have HROW2 := Nu.hid hrow2
      have HR1 := Nu.hid hR1
      have HQ2 := Nu.hid hq2
      have HP2 := Nu.hid hp2
      have HX1 := Nu.hid hX1
      rw [hX1] at cv
      clear hown1 hgrow1 hat1 hb1 hR1 hq2 hrow2 hp2 hl2 hX1 cu
      have hszX : X1.heap.size = w1.heap.size := by rw [HX1.out]; simp
      have hnew : ∀ j' x', [Value.int .i64 (2 * (k : Int) + 1)][j']? = some x' → (X1.alloc (.cells #[.int .i64 (2 * (k : Int) + 1)] 3)).cell? ((⟨w1.heap.size, 0, none⟩ : Addr).add j') = some x' := by
        rw [← hszX]
        exact cell_one_new X1 _ _
      have HNEW := Nu.hid hnew
      have HSZX := Nu.hid hszX
      clear hnew hszX
      go_wp2_with (at_builtin; rw [← HX1.out]; refine wpList_append_own_at _ rfl _ _ 26 rfl (w.heap.size + 1 + 1) 3 i0 (.int .i64 0) 1 8 Try.underlying26 hi hz0 hz1 hz2 rfl (by decide) _ _ _ rfl (World.ownsRow.alloc HROW2.out _) ⟨w1.heap.size, 0, none⟩ 1 1 [.int .i64 (2 * (k : Int) + 1)] rfl rfl HNEW.out (by simp [Value.oneCell']) (by unfold maxLen; omega) (by omega) (by simp; omega) ?_; refine Hid.out ?_)
      refine Nu.hid ?_
      intro v2 w3 hown2 hgrow2 _ hat2
      obtain ⟨g3, cap3, hv2⟩ := own_succ hown2
      have hput2 := HR1.out.put (v' := v2) (by rw [F2.out]; exact HQ2.out) (by rw [F2.out, HP2.out, show ((2 * k + 1 : Nat) : Int) = 2 * (k : Int) + 1 by omega]; exact hown2) hgrow2 (by simpa using hat2)
      rw [F2.out] at hput2
      obtain ⟨cs2, fs2, hR2, hb2⟩ := hput2
      subst hv2
      have HB2 := Nu.hid (HB1.out.trans (hb2.mono (by omega)))
      have HG2 := Nu.hid ((hb2.block w.heap.size (by omega)).trans HG1.out)
      have HR2 := Nu.hid hR2
      clear hown2 hgrow2 hat2 hb2 hR2 cs1 fs1 cv HX1
      go_wp2
      go_roundw
      case rel => exact ⟨k + 1, _, by omega, by go_num, by simp [hvl], HR2.out, HG2.out, HB2.out⟩
      case measure => simp [intOf]; omega
    · have hd : ¬ ((k : Int) < (es.length : Int)) := by omega
      obtain rfl : k = es.length := by omega
      clear hrows hg hb
      go_wp2
      go_ret
      exact ⟨w.heap.size + 1, vs, rfl, hvl, HROWS.out, by omega, HB.out⟩

end Go.Proofs.Ytponmjipbcmlhaa
