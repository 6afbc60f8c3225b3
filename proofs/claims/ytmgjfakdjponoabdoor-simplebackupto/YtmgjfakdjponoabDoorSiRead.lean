/-
  The graph that bytes say, as the program reads it.
-/
import Derived.Test.YtmgjfakdjponoabDoorSiRaw
import Derived.Test.YtmgjfakdjponoabDoorSiMake
import Derived.Test.YtmgjfakdjponoabDoorChainB
namespace Go.Proofs.YtmgjfakdjponoabDoor
open Go.RowKit Go.Sort

/-- A list that Raw answered, as pairs. -/
theorem OwnPairs.edges {w : World} {B : Nat} {v : Value} {ps : List (Int × Int)} (h : OwnPairs w B v ps) : ∃ ao cap, v = .slice ao ps.length cap ∧ EdgesAt w ao ps ∧ (∀ x, ao = some x → B ≤ x.block ∧ x.block < w.heap.size) := by
  have h' := h
  unfold OwnPairs at h'
  rcases h.2 with ⟨rfl, h0⟩ | ⟨g, cap, cur, rfl, hg, hh, _⟩
  · refine ⟨none, 0, by rw [h0], fun j p hj => ?_, fun x h => by cases h⟩
    rw [List.length_eq_zero_iff.1 h0] at hj
    simp at hj
  · refine ⟨_, cap, rfl, fun j p hj => ⟨g, 0, rfl, ?_⟩, fun x h => by cases h; exact ⟨hg, lt_of_block hh⟩⟩
    have hcl := World.ownsRow.cells h' (g := g) rfl
    simp only [addrE] at hcl
    have e : flatP ps = flatE ps := rfl
    rw [e] at hcl
    obtain ⟨h0, h1⟩ := flatE_at ps j p hj
    rw [Nat.zero_add]
    exact ⟨hcl _ _ h0, hcl _ _ h1⟩

theorem Pa.Good.inside {s : Pa.St} (h : Pa.Good s) : Si.inside s.n s.pairs = true := Si.inside_yes fun _ p hj => h.inn p (List.mem_of_getElem? hj)

theorem Pa.Good.few' {s : Pa.St} (h : Pa.Good s) : (Si.made [] s.pairs).length ≤ 2097152 := by
  have h1 := (Si.made_length s.pairs []).2
  have h2 := h.few
  have h3 := h.m1
  simp at h1
  omega

theorem Pa.Good.made {s : Pa.St} (h : Pa.Good s) : Si.mk s.n s.pairs = (s.n, Si.made [] s.pairs, 0) := by
  have h1 := h.few'
  have h2 := h.n0
  have h3 := h.n1
  unfold Si.mk
  rw [if_neg (by rw [h.inside]; simp; omega), if_neg (by omega)]

/-- Two pairs of stores, into two blocks. -/
theorem two_pairs {w : World} {G R : Nat} (hne : G ≠ R) {a b c d : Value} {t t' : TypeId} (hG : w.heap[G]? = some (.cells #[a, b] t (0, 0))) (hR : w.heap[R]? = some (.cells #[c, d] t' (0, 0))) (a' b' c' d' : Value) :
    ((((w.setCell ⟨G, 0, none⟩ a').setCell ⟨G, 1, none⟩ b').setCell ⟨R, 0, none⟩ c').setCell ⟨R, 1, none⟩ d').heap[G]? = some (.cells #[a', b'] t (0, 0)) ∧ ((((w.setCell ⟨G, 0, none⟩ a').setCell ⟨G, 1, none⟩ b').setCell ⟨R, 0, none⟩ c').setCell ⟨R, 1, none⟩ d').heap[R]? = some (.cells #[c', d'] t' (0, 0)) :=
  ⟨(pair_set_other hne _ _).trans (pair_set hG a' b'), pair_set ((pair_set_other hne.symm _ _).trans hR) c' d'⟩

theorem OwnE.keep2 {w : World} {B b : Nat} {v : Value} {ps : List (Int × Int)} (h : OwnE w B v ps) (hb : b < B) (x y : Value) : OwnE ((w.setCell ⟨b, 0, none⟩ x).setCell ⟨b, 1, none⟩ y) B v ps := by
  refine ⟨h.1, ?_⟩
  rcases h.2 with h | ⟨g, cap, cur, e, hgB, hh, hr⟩
  · exact .inl h
  · refine .inr ⟨g, cap, cur, e, hgB, ?_, hr⟩
    rw [pair_set_other (by omega)]
    exact hh

/-- What is answered: no graph and a fault, or the graph and none. -/
def ReadPost (r : Except (Int × Int) Pa.St) (w : World) (e : Ending) (w' : World) : Prop :=
  Below w.heap.size w w' ∧
  ((∃ x, r = .error x ∧ e = .returned (.tuple #[.agg #[.int .i64 0, .slice none 0 0], .agg #[.int .i64 x.1, .int .i64 x.2]])) ∨
   (∃ s v, r = .ok s ∧ e = .returned (.tuple #[.agg #[.int .i64 s.n, v], .agg #[.int .i64 0, .int .i64 0]]) ∧ OwnE w' w.heap.size v (Si.made [] s.pairs)))

set_option maxRecDepth 100000 in
set_option maxHeartbeats 8000000 in
theorem read_graph_any (ao : Option Addr) (n cap : Nat) (g : Nat → Int) (w : World) (ht : HasText w ao n g) (hao : ∀ x, ao = some x → x.block < w.heap.size) (hn : n ≤ maxLen) (hcap : n ≤ cap) :
    Calls Tryd.prog 14 #[.slice ao n cap] w (ReadPost (Pa.raw g n) w) := by
  have hbA : Below w.heap.size w ((w.alloc (.cells #[.int .i64 0, .slice none 0 0] 24)).alloc (.cells #[.int .i64 0, .int .i64 0] 41)) := ((Below.refl _ _).alloc (Nat.le_refl _) _).alloc (by simp) _
  have hra := raw_any ao n cap g _ (ht.later hbA) (fun x hx => by have := hao x hx; simp; omega) hn hcap
  have HBA := Nu.hid hbA
  have HRA := Nu.hid hra
  have ga : ((w.alloc (.cells #[.int .i64 0, .slice none 0 0] 24)).alloc (.cells #[.int .i64 0, .int .i64 0] 41)).heap[w.heap.size]? = some (.cells #[.int .i64 0, .slice none 0 0] 24 (0, 0)) := by
    rw [Below.heap_alloc _ _ _ (by simp)]
    exact heap_alloc_new w _
  have gb : ((w.alloc (.cells #[.int .i64 0, .slice none 0 0] 24)).alloc (.cells #[.int .i64 0, .int .i64 0] 41)).heap[w.heap.size + 1]? = some (.cells #[.int .i64 0, .int .i64 0] 41 (0, 0)) := by
    have := heap_alloc_new (w.alloc (.cells #[.int .i64 0, .slice none 0 0] 24)) (.cells #[.int .i64 0, .int .i64 0] 41)
    simpa using this
  have HGA := Nu.hid ga
  have HGB := Nu.hid gb
  clear ht hao hbA hra ga gb
  go_enter Tryd.func14, Tryd.ntmps14
  go_wp2_with (go_at_call 30; refine HRA.out.mono ?_; refine Hid.out ?_)
  refine Nu.hid ?_
  rintro e w1 ⟨hb1, hor⟩
  have hG1 := (hb1.block _ (by simp; omega)).trans HGA.out
  have hR1 := (hb1.block _ (by simp)).trans HGB.out
  have hsG := lt_of_block hG1
  have hsR := lt_of_block hR1
  obtain ⟨g0, g1, gf⟩ := pair_cells hG1
  obtain ⟨r0, r1, rf⟩ := pair_cells hR1
  have HG1 := Nu.hid hG1
  have HR1 := Nu.hid hR1
  have HB1 := Nu.hid (HBA.out.trans (hb1.mono HBA.out.size))
  clear hb1 hG1 hR1
  rcases hor with ⟨x, hr, rfl⟩ | ⟨s, v, hr, rfl, hop⟩
  · have hcx := Pa.raw_code hr
    have j0 : (x.1 != 0) = true := by simpa using hcx
    have HR := Nu.hid hr
    unfold rawVal rejVal
    clear hr hcx
    go_wp2_with fail
    go_region
    all_goals
      go_wp2
      first
        | (obtain ⟨k1, k2⟩ := two_pairs (by omega) HG1.out HR1.out (.int .i64 0) (.slice none 0 0) (.int .i64 x.1) (.int .i64 x.2)
           obtain ⟨p0, p1, -⟩ := pair_cells k1
           obtain ⟨q0, q1, -⟩ := pair_cells k2
           refine bodyPost_ret (v := .tuple #[.agg #[.int .i64 0, .slice none 0 0], .agg #[.int .i64 x.1, .int .i64 x.2]]) (by simp [results, Tryd.results14, go_sem, p0, p1, q0, q1, hsG, hsR]) rfl ?_
           exact ⟨((((((HB1.out.setCell (by simp) _).setCell (by simp) _).setCell (by simp) _).setCell (by simp) _).alloc (by simp; omega) _).alloc (by simp; omega) _).drew, .inl ⟨x, HR.out, rfl⟩⟩)
        | (obtain ⟨k2, k1⟩ := two_pairs (by omega) HR1.out HG1.out (.int .i64 x.1) (.int .i64 x.2) (.int .i64 0) (.slice none 0 0)
           obtain ⟨p0, p1, -⟩ := pair_cells k1
           obtain ⟨q0, q1, -⟩ := pair_cells k2
           refine bodyPost_ret (v := .tuple #[.agg #[.int .i64 0, .slice none 0 0], .agg #[.int .i64 x.1, .int .i64 x.2]]) (by simp [results, Tryd.results14, go_sem, p0, p1, q0, q1, hsG, hsR]) rfl ?_
           exact ⟨((((((HB1.out.setCell (by simp) _).setCell (by simp) _).setCell (by simp) _).setCell (by simp) _).alloc (by simp; omega) _).alloc (by simp; omega) _).drew, .inl ⟨x, HR.out, rfl⟩⟩)
  · have hgood := Pa.raw_good hr
    obtain ⟨va, vc, rfl, hea, _⟩ := hop.edges
    have HR := Nu.hid hr
    have HEA := Nu.hid hea
    have HGOOD := Nu.hid hgood
    have hlen : s.pairs.length ≤ 2097152 := by
      have h2 := hgood.few
      have h3 := hgood.m1
      omega
    unfold rawVal rejVal
    dsimp only
    clear hr hop hea hgood
    have hb2 : Below w1.heap.size w1 ((w1.alloc (.cells #[.int .i64 s.n, .slice va s.pairs.length vc] 67)).alloc (.cells #[.int .i64 0, .int .i64 0] 41)) := ((Below.refl _ _).alloc (Nat.le_refl _) _).alloc (by simp) _
    have hmk : Calls Tryd.prog 10 #[.int .i64 s.n, .slice va s.pairs.length vc] ((w1.alloc (.cells #[.int .i64 s.n, .slice va s.pairs.length vc] 67)).alloc (.cells #[.int .i64 0, .int .i64 0] 41)) (MakeP (s.n, Si.made [] s.pairs, 0) ((w1.alloc (.cells #[.int .i64 s.n, .slice va s.pairs.length vc] 67)).alloc (.cells #[.int .i64 0, .int .i64 0] 41))) := by
      rw [← HGOOD.out.made]
      exact make_any s.n va vc s.pairs _ (HEA.out.later hb2) (by omega)
    have HMK := Nu.hid hmk
    have HB2 := Nu.hid hb2
    clear hmk hb2
    go_wp2_with (go_at_call 10; refine HMK.out.mono ?_; refine Hid.out ?_)
    refine Nu.hid ?_
    rintro e w3 ⟨v, rfl, hown, hb3⟩
    dsimp only at hown ⊢
    obtain ⟨a3, c3, rfl, _, _, _, hx3⟩ := hown.form
    have hb13 : Below w1.heap.size w1 w3 := HB2.out.trans (hb3.mono HB2.out.size)
    have hG3 := (hb13.block _ hsG).trans HG1.out
    have hR3 := (hb13.block _ hsR).trans HR1.out
    have hs3 : w1.heap.size ≤ w3.heap.size := hb13.size
    have hsG3 := lt_of_block hG3
    have hsR3 := lt_of_block hR3
    clear g0 g1 gf r0 r1 rf
    obtain ⟨g0, g1, gf⟩ := pair_cells hG3
    obtain ⟨r0, r1, rf⟩ := pair_cells hR3
    have HG3 := Nu.hid hG3
    have HR3 := Nu.hid hR3
    have HB3 := Nu.hid (HB1.out.trans (hb13.mono HB1.out.size))
    have HOWN := Nu.hid hown
    clear hb3 hb13 hG3 hR3 hown hx3
    go_wp2
    obtain ⟨k1, k2⟩ := two_pairs (by omega) HG3.out HR3.out (.int .i64 s.n) (.slice a3 (Si.made [] s.pairs).length c3) (.int .i64 0) (.int .i64 0)
    obtain ⟨p0, p1, -⟩ := pair_cells k1
    obtain ⟨q0, q1, -⟩ := pair_cells k2
    refine bodyPost_ret (v := .tuple #[.agg #[.int .i64 s.n, .slice a3 (Si.made [] s.pairs).length c3], .agg #[.int .i64 0, .int .i64 0]]) (by simp [results, Tryd.results14, go_sem, p0, p1, q0, q1, hsG3, hsR3]) rfl ?_
    refine ⟨((((HB3.out.setCell (by simp) _).setCell (by simp) _).setCell (by simp) _).setCell (by simp) _).alloc (by simp; omega) _, .inr ⟨s, _, HR.out, rfl, ?_⟩⟩
    exact ((((HOWN.out.keep2 (by simp; omega) _ _).keep2 (by simp; omega) _ _).lower (by simp; omega)).alloc _)

end Go.Proofs.YtmgjfakdjponoabDoor
