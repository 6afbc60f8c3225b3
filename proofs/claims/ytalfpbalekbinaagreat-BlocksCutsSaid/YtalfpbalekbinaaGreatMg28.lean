import Derived.Test.YtalfpbalekbinaaGreatMg26
import Derived.Test.YtalfpbalekbinaaGreatMg27
import Derived.Test.YtalfpbalekbinaaGreatMg08
import Derived.Test.YtalfpbalekbinaaGreatMg20
/-
  bridges of a graph that has fallen into its blocks; Cuts, Bridges.
-/
namespace Go.Proofs.YtalfpbalekbinaaGreat
open Go.RowKit Go.Sort

namespace Bl
/-- The block under this key has one edge. -/
def One9 (F : List (List Nat)) (t : Nat) : Prop := ∃ L ∈ F, mn L = t ∧ L.length = 1
open Classical in
noncomputable def oneTo (F : List (List Nat)) (K : List Nat) (k : Nat) : List Int := ((K.take k).filter fun t => decide (One9 F t)).map fun t : Nat => (t : Int)
open Classical in
theorem oneTo_yes {F : List (List Nat)} {K : List Nat} {k t : Nat} (hk : K[k]? = some t) (h : One9 F t) : oneTo F K (k + 1) = oneTo F K k ++ [(t : Int)] := by
  unfold oneTo
  rw [List.take_add_one, hk, List.filter_append, List.map_append]
  show _ ++ List.map _ (List.filter _ [t]) = _
  rw [List.filter_cons_of_pos (by simpa using h)]
  rfl
open Classical in
theorem oneTo_no {F : List (List Nat)} {K : List Nat} {k t : Nat} (hk : K[k]? = some t) (h : ¬ One9 F t) : oneTo F K (k + 1) = oneTo F K k := by
  unfold oneTo
  rw [List.take_add_one, hk, List.filter_append, List.map_append]
  show _ ++ List.map _ (List.filter _ [t]) = _
  rw [List.filter_cons_of_neg (by simpa using h)]
  simp
open Classical in
theorem oneTo_length (F : List (List Nat)) (K : List Nat) (k : Nat) : (oneTo F K k).length ≤ k := by
  unfold oneTo
  rw [List.length_map]
  refine Nat.le_trans (List.length_filter_le _ _) (by simp; omega)
theorem one_iff {es : List (Int × Int)} {s : Df.St} {F : List (List Nat)} (p : Parted es s F) {L : List Nat} (hL : L ∈ F) : One9 F (mn L) ↔ L.length = 1 := by
  constructor
  · rintro ⟨L', hL', e, h⟩
    rw [← p.same hL' hL e]
    exact h
  · exact fun h => ⟨L, hL, rfl, h⟩
open Classical in
theorem oneTo_all {es : List (Int × Int)} {s : Df.St} {F : List (List Nat)} {K : List Nat} (p : Parted es s F) (hK : K = (List.range es.length).filter fun e => decide (mB es s e = e)) : oneTo F K K.length = brTo (numB (mB es s)) es.length es.length := by
  unfold oneTo brTo
  congr 1
  rw [List.take_length]
  refine rising_ext (List.Pairwise.filter _ (by rw [hK]; exact range_rising _ _)) (range_rising _ _) fun t => ?_
  rw [List.mem_filter, List.mem_filter, hK, List.mem_filter, List.mem_range]
  unfold lone
  rw [decide_eq_true_iff, decide_eq_true_iff, decide_eq_true_iff]
  constructor
  · rintro ⟨⟨ht, hm⟩, L, hL, hmn, h1⟩
    refine ⟨ht, fun k hk hne hf => ?_⟩
    have htL : t ∈ L := by rw [← hmn]; exact mn_mem (p.one L hL).1
    have hkL : k ∈ L := (p.mem hL htL k).2 ⟨hk, (mB_iff ht hk).1 ((numB_iff hk ht).1 hf)⟩
    obtain ⟨x, hx⟩ := List.length_eq_one_iff.1 h1
    rw [hx] at htL hkL
    have e1 : t = x := by simpa using htL
    have e2 : k = x := by simpa using hkL
    exact hne (e2.trans e1.symm)
  · rintro ⟨ht, hl⟩
    obtain ⟨L, hL, htL⟩ := p.all t ht
    have hall : ∀ x ∈ L, x = t := fun x hx => by
      by_cases e : x = t
      · exact e
      · exact absurd ((numB_iff (p.lt hL hx) ht).2 ((mB_iff ht (p.lt hL hx)).2 ((p.mem hL htL x).1 hx).2)) (hl x (p.lt hL hx) e)
    have hmn : mn L = t := hall _ (mn_mem (p.one L hL).1)
    refine ⟨⟨ht, by rw [← p.mn hL htL, hmn]⟩, L, hL, hmn, ?_⟩
    have hnd := (p.one L hL).2.1
    cases L with
    | nil => cases htL
    | cons a L =>
      cases L with
      | nil => rfl
      | cons b L =>
        exfalso
        have h1 := hall a (by simp)
        have h2 := hall b (by simp)
        rw [h1, h2] at hnd
        simp at hnd
end Bl

section
variable {w : World} {p : Nat} {av : Value} {mb : Nat} {lo : Option Addr} {lc : Nat} {ov : Value} {n : Nat} {es : List (Int × Int)} {s : Df.St} {F : List (List Nat)} {D : DataW Value} {K : List Nat}

set_option maxRecDepth 100000 in
set_option maxHeartbeats 16000000 in
theorem bridges_any9 (h : PtIn w p av mb lo lc ov n es s F D K) :
    Calls Tryz.prog 19 #[.pointer (some ⟨p, 0, none⟩)] w (ListPost (Bl.brTo (Bl.numB (Bl.mB es s)) es.length es.length) w) := by
  obtain ⟨hKl, hfew⟩ := h.few
  obtain ⟨-, -, c2, -, -⟩ := h.cells
  have H := Nu.hid h
  have HALL := Nu.hid (Bl.oneTo_all h.pt h.key)
  clear h
  go_enter Tryz.func19, Tryz.ntmps19
  go_wp2
  go_loopw [3, 11] (fun lv cv wr => ∃ k : Nat, k ≤ K.length ∧ cv = .int .i64 (k : Int) ∧ OwnZ wr w.heap.size lv (Bl.oneTo F K k) ∧ Below w.heap.size w wr) (fun _ cv _ => K.length - (intOf cv).toNat)
  case atStart => exact ⟨0, Nat.zero_le _, rfl, .nil _ _, Below.refl _ _⟩
  case round =>
    obtain ⟨k, hk, rfl, hO, hb⟩ := hrel
    have HO := Nu.hid hO
    have HB := Nu.hid hb
    obtain ⟨vo, vc, hv3, -, -⟩ := hO.form
    have hlen := Bl.oneTo_length F K k
    subst hv3
    by_cases hkn : k < K.length
    · have hlti : (k : Int) < (K.length : Int) := by omega
      have k0 : (0 : Int) ≤ (k : Int) := by omega
      have hr := H.out.later hb
      obtain ⟨-, c1, -, -, -⟩ := hr.cells
      obtain ⟨t, ht⟩ : ∃ t, K[k]? = some t := ⟨_, List.getElem?_eq_getElem hkn⟩
      obtain ⟨bo, oo, elo, d0⟩ := hr.kat k (t : Int) (by rw [List.getElem?_map, ht]; rfl)
      obtain ⟨L, hL, hLt, htl⟩ := hr.blockAt ht
      obtain ⟨gL, hgLl, hlks⟩ := H.out.mp.looks hL (by omega)
      obtain ⟨hlk, -⟩ := hlks wr hb
      rw [hLt] at hlk
      have hone := Bl.one_iff hr.pt hL
      rw [hLt] at hone
      rw [elo] at c2 ⊢
      by_cases h1 : L.length = 1
      · have HY := Nu.hid (Bl.oneTo_yes ht (hone.2 h1))
        rw [h1] at hlk
        clear hO hb hr ht hL hLt elo hlks hone h1
        obtain ⟨cl, hcl⟩ : ∃ cl, Bl.oneTo F K k = cl := ⟨_, rfl⟩
        rw [hcl] at HO HY hlen ⊢
        clear hcl
        have hbs := HB.out.size
        go_wp2_with (at_builtin; refine wpList_push rfl _ _ rfl wr w.heap.size (.slice vo cl.length vc) cl (t : Int) HO.out hbs (by omega) rfl rfl ?_; refine Hid.out ?_)
        refine Nu.hid ?_
        intro v' w5 ho5 hg5 hat5 hb5
        have HO5 := Nu.hid ho5
        have HB5 := Nu.hid (HB.out.trans hb5)
        clear ho5 hg5 hat5 hb5
        go_wp2
        go_roundw
        case rel => exact ⟨k + 1, by omega, by go_num, by rw [HY.out]; exact HO5.out, HB5.out⟩
        case measure => simp [intOf]; omega
      · have HY := Nu.hid (Bl.oneTo_no ht (fun h => h1 (hone.1 h)))
        obtain ⟨N, hN⟩ : ∃ N, L.length = N := ⟨_, rfl⟩
        rw [hN] at hlk h1
        have hd : ((N : Int) == 1) = false := by simp; omega
        clear hO hb hr ht hL hLt elo hlks hone h1 hN
        go_wp2
        go_roundw
        case rel => exact ⟨k + 1, by omega, by go_num, by rw [HY.out]; exact HO.out, HB.out⟩
        case measure => simp [intOf]; omega
    · have hlti : ¬ (k : Int) < (K.length : Int) := by omega
      obtain rfl : k = K.length := by omega
      clear hO hb
      go_wp2
      go_ret
      exact ⟨_, rfl, by rw [← HALL.out]; exact HO.out, HB.out⟩
end

/-- What Cuts and Bridges answer of a valid graph. -/
def ListsP9 (es : List (Int × Int)) (l : Df.St → List Int) (n : Nat) (w : World) (e : Ending) (w' : World) : Prop :=
  ∃ s v, Df.VF n es s ∧ e = .returned (.tuple #[v, .int .i64 0]) ∧ OwnZ w' w.heap.size v (l s) ∧ Below w.heap.size w w'

set_option maxRecDepth 100000 in
set_option maxHeartbeats 16000000 in
theorem pcuts9_yes (n : Nat) (ao : Option Addr) (cap : Nat) (es : List (Int × Int)) (w : World) (he : EdgesAt w ao es) (hval : Si.Val n es) :
    Calls Tryz.prog 5 #[graphVal n ao es.length cap] w (ListsP9 es (fun s => Bl.cutsTo es (Bl.numB (Bl.mB es s)) (Bl.cntB (Bl.mB es s) es.length) n) n w) := by
  have hb1 : Below w.heap.size w (w.alloc (.cells #[.int .i64 (n : Int), .slice ao es.length cap] 24)) := (Below.refl _ _).alloc (Nat.le_refl _) _
  have HP := Nu.hid (part_yes n ao cap es _ (he.later hb1) hval)
  have HB1 := Nu.hid hb1
  unfold graphVal at HP ⊢
  clear he hb1
  go_enter Tryz.func5, Tryz.ntmps5
  go_wp2_with (go_at_call 17; refine HP.out.mono ?_; rintro e w2 ⟨p, av, mb, lo, lc, s, F, D, K, go, rfl, hpt, hio, hgo, hb2⟩; refine Hid.out ?_)
  refine Nu.hid ?_
  have HB2 := Nu.hid (HB1.out.trans (hb2.mono HB1.out.size))
  have HC : Hid (Calls Tryz.prog 18 #[.pointer (some ⟨p, 0, none⟩)] w2 fun e w' => ∃ ao k c, e = .returned (.slice ao k c) ∧ OwnZ w' w2.heap.size (.slice ao k c) (Bl.cutsTo es (Bl.numB (Bl.mB es s)) (Bl.cntB (Bl.mB es s) es.length) n) ∧ Below w2.heap.size w2 w') := (cuts_any9 hpt hio).mono (by
    rintro e w' ⟨v, rfl, h1, h2⟩
    obtain ⟨a, c, e1, _⟩ := h1.form
    subst e1
    exact ⟨_, _, _, rfl, h1, h2⟩)
  have HVF := Nu.hid hpt.vf
  clear hpt hio hgo hb2
  go_wp2_with (go_at_call 18; refine HC.out.mono ?_; rintro e w3 ⟨a, k, c, rfl, ho, hb3⟩; have HO := Nu.hid (ho.lower HB2.out.size); have HB3 := Nu.hid (HB2.out.trans (hb3.mono HB2.out.size)); clear ho hb3)
  go_ret2
  exact ⟨s, _, HVF.out, rfl, HO.out, HB3.out⟩

set_option maxRecDepth 100000 in
set_option maxHeartbeats 16000000 in
theorem pcuts9_no (n : Int) (ao : Option Addr) (cap : Nat) (es : List (Int × Int)) (w : World) (he : EdgesAt w ao es) (hl : es.length ≤ 4611686018427387904) (hv : Si.valid n es = false) :
    Calls Tryz.prog 5 #[graphVal n ao es.length cap] w fun e w' => e = .returned (.tuple #[.slice none 0 0, .int .i64 1]) ∧ Below w.heap.size w w' := by
  have hb1 : Below w.heap.size w (w.alloc (.cells #[.int .i64 n, .slice ao es.length cap] 24)) := (Below.refl _ _).alloc (Nat.le_refl _) _
  have HP := Nu.hid (part_no n ao cap es _ (he.later hb1) hl hv)
  have HB1 := Nu.hid hb1
  unfold graphVal at HP ⊢
  clear he hb1
  go_enter Tryz.func5, Tryz.ntmps5
  go_wp2_with (go_at_call 17; refine HP.out.mono ?_; rintro e w2 ⟨rfl, hb2⟩; have HB2 := Nu.hid (HB1.out.trans (hb2.mono HB1.out.size)); clear hb2)
  go_ret2
  exact ⟨rfl, HB2.out⟩

set_option maxRecDepth 100000 in
set_option maxHeartbeats 16000000 in
theorem pbridges9_yes (n : Nat) (ao : Option Addr) (cap : Nat) (es : List (Int × Int)) (w : World) (he : EdgesAt w ao es) (hval : Si.Val n es) :
    Calls Tryz.prog 7 #[graphVal n ao es.length cap] w (ListsP9 es (fun s => Bl.brTo (Bl.numB (Bl.mB es s)) es.length es.length) n w) := by
  have hb1 : Below w.heap.size w (w.alloc (.cells #[.int .i64 (n : Int), .slice ao es.length cap] 24)) := (Below.refl _ _).alloc (Nat.le_refl _) _
  have HP := Nu.hid (part_yes n ao cap es _ (he.later hb1) hval)
  have HB1 := Nu.hid hb1
  unfold graphVal at HP ⊢
  clear he hb1
  go_enter Tryz.func7, Tryz.ntmps7
  go_wp2_with (go_at_call 17; refine HP.out.mono ?_; rintro e w2 ⟨p, av, mb, lo, lc, s, F, D, K, go, rfl, hpt, hio, hgo, hb2⟩; refine Hid.out ?_)
  refine Nu.hid ?_
  have HB2 := Nu.hid (HB1.out.trans (hb2.mono HB1.out.size))
  have HC : Hid (Calls Tryz.prog 19 #[.pointer (some ⟨p, 0, none⟩)] w2 fun e w' => ∃ ao k c, e = .returned (.slice ao k c) ∧ OwnZ w' w2.heap.size (.slice ao k c) (Bl.brTo (Bl.numB (Bl.mB es s)) es.length es.length) ∧ Below w2.heap.size w2 w') := (bridges_any9 hpt).mono (by
    rintro e w' ⟨v, rfl, h1, h2⟩
    obtain ⟨a, c, e1, _⟩ := h1.form
    subst e1
    exact ⟨_, _, _, rfl, h1, h2⟩)
  have HVF := Nu.hid hpt.vf
  clear hpt hio hgo hb2
  go_wp2_with (go_at_call 19; refine HC.out.mono ?_; rintro e w3 ⟨a, k, c, rfl, ho, hb3⟩; have HO := Nu.hid (ho.lower HB2.out.size); have HB3 := Nu.hid (HB2.out.trans (hb3.mono HB2.out.size)); clear ho hb3)
  go_ret2
  exact ⟨s, _, HVF.out, rfl, HO.out, HB3.out⟩

set_option maxRecDepth 100000 in
set_option maxHeartbeats 16000000 in
theorem pbridges9_no (n : Int) (ao : Option Addr) (cap : Nat) (es : List (Int × Int)) (w : World) (he : EdgesAt w ao es) (hl : es.length ≤ 4611686018427387904) (hv : Si.valid n es = false) :
    Calls Tryz.prog 7 #[graphVal n ao es.length cap] w fun e w' => e = .returned (.tuple #[.slice none 0 0, .int .i64 1]) ∧ Below w.heap.size w w' := by
  have hb1 : Below w.heap.size w (w.alloc (.cells #[.int .i64 n, .slice ao es.length cap] 24)) := (Below.refl _ _).alloc (Nat.le_refl _) _
  have HP := Nu.hid (part_no n ao cap es _ (he.later hb1) hl hv)
  have HB1 := Nu.hid hb1
  unfold graphVal at HP ⊢
  clear he hb1
  go_enter Tryz.func7, Tryz.ntmps7
  go_wp2_with (go_at_call 17; refine HP.out.mono ?_; rintro e w2 ⟨rfl, hb2⟩; have HB2 := Nu.hid (HB1.out.trans (hb2.mono HB1.out.size)); clear hb2)
  go_ret2
  exact ⟨rfl, HB2.out⟩
end Go.Proofs.YtalfpbalekbinaaGreat

/-
  Block: a block as a graph of its own, and its vertices.
-/
namespace Go.Proofs.YtalfpbalekbinaaGreat
open Go.RowKit Go.Sort

abbrev noGraph : Value := .agg #[.int .i64 0, .slice none 0 0]

/-- What Block answers of a valid graph and a block that is there. -/
def BlkP9 (n : Nat) (es : List (Int × Int)) (k : Nat) (w : World) (e : Ending) (w' : World) : Prop :=
  ∃ s g v, Df.VF n es s ∧ k < Bl.cntB (Bl.mB es s) es.length ∧ e = .returned (.tuple #[.agg #[.int .i64 ((Bl.vsTo es (Bl.numB (Bl.mB es s)) (k : Int) n).length : Int), .slice (some ⟨g, 0, none⟩) (Bl.bkTo es (Bl.numB (Bl.mB es s)) (Bl.vsTo es (Bl.numB (Bl.mB es s)) (k : Int) n) k es.length).length (Bl.bkTo es (Bl.numB (Bl.mB es s)) (Bl.vsTo es (Bl.numB (Bl.mB es s)) (k : Int) n) k es.length).length], v, .int .i64 0])
    ∧ EdgesBlk w' g (Bl.bkTo es (Bl.numB (Bl.mB es s)) (Bl.vsTo es (Bl.numB (Bl.mB es s)) (k : Int) n) k es.length) ∧ OwnZ w' w.heap.size v (Bl.vsTo es (Bl.numB (Bl.mB es s)) (k : Int) n) ∧ w.heap.size ≤ g ∧ (∀ b, v.ownBlock = some b → b < g) ∧ Below w.heap.size w w'
/-- What Block answers of a valid graph and a block that isn't there. -/
def NoBlkP9 (n : Nat) (es : List (Int × Int)) (k : Int) (w : World) (e : Ending) (w' : World) : Prop :=
  ∃ s, Df.VF n es s ∧ (k < 0 ∨ (Bl.cntB (Bl.mB es s) es.length : Int) ≤ k) ∧ e = .returned (.tuple #[noGraph, .slice none 0 0, .int .i64 2]) ∧ Below w.heap.size w w'

theorem results_graph3 {fn : Func} {P : Program} {p q r : Tmp} (h : fn.results = #[.cell p 24, .tmp q, .tmp r]) (hP : P = Tryz.prog) (tmps : Array Value) (w : World) (b : Nat) (x y v z : Value) (hp : tmps.getD p undef = .pointer (some ⟨b, 0, none⟩)) (hq : tmps.getD q undef = v) (hr : tmps.getD r undef = z) (h0 : w.cell? ⟨b, 0, none⟩ = some x) (h1 : w.cell? ⟨b, 1, none⟩ = some y) : (results fn tmps).run P w = .ok (.tuple #[.agg #[x, y], v, z]) w := by
  subst hP
  have hp' : tmps[p]?.getD undef = .pointer (some ⟨b, 0, none⟩) := by simpa using hp
  have hq' : tmps[q]?.getD undef = v := by simpa using hq
  have hr' : tmps[r]?.getD undef = z := by simpa using hr
  simp [results, h, go_sem, hp', hq', hr', h0, h1]

theorem set_two {w : World} {b : Nat} {u v : Value} (hu : w.cell? ⟨b, 0, none⟩ = some u) (hv : w.cell? ⟨b, 1, none⟩ = some v) (x y : Value) : ((w.setCell ⟨b, 0, none⟩ x).setCell ⟨b, 1, none⟩ y).cell? ⟨b, 0, none⟩ = some x ∧ ((w.setCell ⟨b, 0, none⟩ x).setCell ⟨b, 1, none⟩ y).cell? ⟨b, 1, none⟩ = some y := by
  constructor <;> simp [go_sem, hu, hv]

set_option maxRecDepth 100000 in
set_option maxHeartbeats 16000000 in
theorem pblock9_no (n k : Int) (ao : Option Addr) (cap : Nat) (es : List (Int × Int)) (w : World) (he : EdgesAt w ao es) (hl : es.length ≤ 4611686018427387904) (hv : Si.valid n es = false) :
    Calls Tryz.prog 15 #[graphVal n ao es.length cap, .int .i64 k] w fun e w' => e = .returned (.tuple #[noGraph, .slice none 0 0, .int .i64 1]) ∧ Below w.heap.size w w' := by
  obtain ⟨w1, hw1⟩ : ∃ w1, w1 = (w.alloc (.cells #[.int .i64 n, .slice ao es.length cap] 24)).alloc (.cells #[.int .i64 0, .slice none 0 0] 24) := ⟨_, rfl⟩
  have hb1 : Below w.heap.size w w1 := by rw [hw1]; exact ((Below.refl _ _).alloc (Nat.le_refl _) _).alloc (by simp) _
  have hG : w1.heap[w.heap.size + 1]? = some (.cells #[.int .i64 0, .slice none 0 0] 24 (0, 0)) := by
    have := heap_alloc_new (w.alloc (.cells #[.int .i64 n, .slice ao es.length cap] 24)) (.cells #[.int .i64 0, .slice none 0 0] 24)
    rw [hw1]
    simpa using this
  have HP := Nu.hid (part_no n ao cap es w1 (he.later hb1) hl hv)
  have HB1 := Nu.hid hb1
  have HW1 := Nu.hid hw1
  have HG := Nu.hid hG
  unfold graphVal at HP ⊢
  clear he hb1 hw1 hG
  go_enter Tryz.func15, Tryz.ntmps15
  go_wp2_with (go_at_call 17; rw [← HW1.out]; refine HP.out.mono ?_; rintro e w2 ⟨rfl, hb2⟩; refine Hid.out ?_)
  refine Nu.hid ?_
  have HB2 := Nu.hid (HB1.out.trans (hb2.mono HB1.out.size))
  obtain ⟨g0, g1, gf⟩ := pair_cells ((hb2.block _ (lt_of_block HG.out)).trans HG.out)
  clear hb2
  go_wp2
  refine bodyPost_ret (results_graph3 Tryz.results15 rfl _ _ _ _ _ _ _ rfl rfl rfl (set_two g0 g1 _ _).1 (set_two g0 g1 _ _).2) rfl ?_
  exact ⟨rfl, (HB2.out.setCell (p := ⟨w.heap.size + 1, 0, none⟩) (by simp) _).setCell (p := ⟨w.heap.size + 1, 1, none⟩) (by simp) _⟩

set_option maxRecDepth 100000 in
set_option maxHeartbeats 16000000 in
theorem pblock9_yes (n : Nat) (k : Int) (ao : Option Addr) (cap : Nat) (es : List (Int × Int)) (w : World) (he : EdgesAt w ao es) (hval : Si.Val n es) :
    Calls Tryz.prog 15 #[graphVal n ao es.length cap, .int .i64 k] w fun e w' => (∃ kk : Nat, k = (kk : Int) ∧ BlkP9 n es kk w e w') ∨ NoBlkP9 n es k w e w' := by
  have hfew := hval.few
  obtain ⟨w1, hw1⟩ : ∃ w1, w1 = (w.alloc (.cells #[.int .i64 (n : Int), .slice ao es.length cap] 24)).alloc (.cells #[.int .i64 0, .slice none 0 0] 24) := ⟨_, rfl⟩
  have hb1 : Below w.heap.size w w1 := by rw [hw1]; exact ((Below.refl _ _).alloc (Nat.le_refl _) _).alloc (by simp) _
  have hG : w1.heap[w.heap.size + 1]? = some (.cells #[.int .i64 0, .slice none 0 0] 24 (0, 0)) := by
    have := heap_alloc_new (w.alloc (.cells #[.int .i64 (n : Int), .slice ao es.length cap] 24)) (.cells #[.int .i64 0, .slice none 0 0] 24)
    rw [hw1]
    simpa using this
  have HP := Nu.hid (part_yes n ao cap es w1 (he.later hb1) hval)
  have HB1 := Nu.hid hb1
  have HW1 := Nu.hid hw1
  have HG := Nu.hid hG
  unfold graphVal at HP ⊢
  clear he hb1 hw1 hG hval
  go_enter Tryz.func15, Tryz.ntmps15
  go_wp2_with (go_at_call 17; rw [← HW1.out]; refine HP.out.mono ?_; rintro e w2 ⟨p, av, mb, lo, lc, s, F, D, K, go, rfl, hpt, hio, hgo, hb2⟩; refine Hid.out ?_)
  refine Nu.hid ?_
  have HB2 := Nu.hid (HB1.out.trans (hb2.mono HB1.out.size))
  have HG2 : Hid (w2.heap[w.heap.size + 1]? = some (.cells #[.int .i64 0, .slice none 0 0] 24 (0, 0))) := (hb2.block _ (lt_of_block HG.out)).trans HG.out
  obtain ⟨g0, g1, gf⟩ := pair_cells HG2.out
  have HPT := Nu.hid hpt
  have HCN := Nu.hid (count_any9 hpt)
  have HIO := Nu.hid hio
  have HK := Nu.hid (Bl.keys_len hpt.key)
  have hcl : Bl.cntB (Bl.mB es s) es.length ≤ 4194304 := Nat.le_trans (Bl.cntB_le _ _) hfew
  clear hb2 hpt hio hgo HG
  obtain ⟨c, hc⟩ : ∃ c, Bl.cntB (Bl.mB es s) es.length = c := ⟨_, rfl⟩
  rw [hc] at HCN HK hcl
  by_cases hk0 : k < 0
  · have HEND : Hid (NoBlkP9 n es k w (.returned (.tuple #[noGraph, .slice none 0 0, .int .i64 2])) ((w2.setCell ⟨w.heap.size + 1, 0, none⟩ (.int .i64 0)).setCell ⟨w.heap.size + 1, 1, none⟩ (.slice none 0 0))) :=
      ⟨s, HPT.out.vf, .inl hk0, rfl, (HB2.out.setCell (p := ⟨w.heap.size + 1, 0, none⟩) (by simp) _).setCell (p := ⟨w.heap.size + 1, 1, none⟩) (by simp) _⟩
    go_wp2
    refine bodyPost_ret (results_graph3 Tryz.results15 rfl _ _ _ _ _ _ _ rfl rfl rfl (set_two g0 g1 _ _).1 (set_two g0 g1 _ _).2) rfl ?_
    exact .inr HEND.out
  by_cases hkc : (c : Int) ≤ k
  · have HEND : Hid (NoBlkP9 n es k w (.returned (.tuple #[noGraph, .slice none 0 0, .int .i64 2])) ((w2.setCell ⟨w.heap.size + 1, 0, none⟩ (.int .i64 0)).setCell ⟨w.heap.size + 1, 1, none⟩ (.slice none 0 0))) :=
      ⟨s, HPT.out.vf, .inr (by rw [hc]; exact hkc), rfl, (HB2.out.setCell (p := ⟨w.heap.size + 1, 0, none⟩) (by simp) _).setCell (p := ⟨w.heap.size + 1, 1, none⟩) (by simp) _⟩
    go_wp2_with (go_at_call 26; refine HCN.out.mono ?_; rintro e w3 ⟨rfl, hw3⟩; obtain rfl := hw3.symm)
    refine bodyPost_ret (results_graph3 Tryz.results15 rfl _ _ _ _ _ _ _ rfl rfl rfl (set_two g0 g1 _ _).1 (set_two g0 g1 _ _).2) rfl ?_
    exact .inr HEND.out
  · obtain ⟨kk, rfl⟩ : ∃ kk : Nat, k = (kk : Int) := ⟨k.toNat, by omega⟩
    obtain ⟨vs, hvs⟩ : ∃ vs, Bl.vsTo es (Bl.numB (Bl.mB es s)) (kk : Int) n = vs := ⟨_, rfl⟩
    have HV : Hid (Calls Tryz.prog 27 #[.pointer (some ⟨p, 0, none⟩), .int .i64 (kk : Int)] w2 fun e w' => ∃ va vc, e = .returned (.slice va vs.length vc) ∧ OwnZ w' w2.heap.size (.slice va vs.length vc) vs ∧ Below w2.heap.size w2 w') := (vertices_any9 kk HPT.out HIO.out).mono (by
      rintro e w' ⟨v, rfl, h1, h2⟩
      rw [hvs] at h1
      obtain ⟨a, c, e1, _⟩ := h1.form
      subst e1
      exact ⟨_, _, rfl, h1, h2⟩)
    have HVS := Nu.hid hvs
    have HC := Nu.hid hc
    clear hvs hc
    go_wp2_with (first | (go_at_call 26; refine HCN.out.mono ?_; rintro e w3 ⟨rfl, hw3⟩; obtain rfl := hw3.symm) | (go_at_call 27; refine HV.out.mono ?_; rintro e w3 ⟨va, vc, rfl, ho, hb3⟩; refine Hid.out ?_))
    refine Nu.hid ?_
    have HGR : Hid (Calls Tryz.prog 28 #[.pointer (some ⟨p, 0, none⟩), .int .i64 (kk : Int), .slice va vs.length vc] w3 (GrPost vs.length (Bl.bkTo es (Bl.numB (Bl.mB es s)) vs kk es.length) w3)) := by
      have hk2 : kk < K.length := by rw [HK.out]; omega
      have hat := ho.form
      obtain ⟨a, c, e1, h3, _⟩ := hat
      cases e1
      have := graph_any9 kk hk2 va vc (HPT.out.later hb3) (by rw [HVS.out]; exact h3)
      rw [HVS.out] at this
      exact this
    have HO := Nu.hid ho
    have HB3 := Nu.hid (HB2.out.trans (hb3.mono HB2.out.size))
    have HG3 : Hid (w3.heap[w.heap.size + 1]? = some (.cells #[.int .i64 0, .slice none 0 0] 24 (0, 0))) := (hb3.block _ (lt_of_block HG2.out)).trans HG2.out
    have hs2 : w.heap.size + 1 < w2.heap.size := lt_of_block HG2.out
    clear ho hb3 g0 g1 gf
    go_wp2_with (go_at_call 28; refine HGR.out.mono ?_; rintro e w4 ⟨g, rfl, hE, hg, hb4⟩; refine Hid.out ?_)
    refine Nu.hid ?_
    have HG4 : Hid (w4.heap[w.heap.size + 1]? = some (.cells #[.int .i64 0, .slice none 0 0] 24 (0, 0))) := (hb4.block _ (lt_of_block HG3.out)).trans HG3.out
    obtain ⟨g0, g1, gf⟩ := pair_cells HG4.out
    have hs3 := lt_of_block HG3.out
    obtain ⟨R, hR⟩ : ∃ R, Bl.bkTo es (Bl.numB (Bl.mB es s)) vs kk es.length = R := ⟨_, rfl⟩
    rw [hR] at hE ⊢
    have HEND : Hid (BlkP9 n es kk w (.returned (.tuple #[.agg #[.int .i64 (vs.length : Int), .slice (some ⟨g, 0, none⟩) R.length R.length], .slice va vs.length vc, .int .i64 0])) ((w4.setCell ⟨w.heap.size + 1, 0, none⟩ (.int .i64 (vs.length : Int))).setCell ⟨w.heap.size + 1, 1, none⟩ (.slice (some ⟨g, 0, none⟩) R.length R.length))) := by
      refine ⟨s, g, .slice va vs.length vc, HPT.out.vf, by rw [HC.out]; omega, ?_, ?_, ?_, by have := HB3.out.size; omega, fun b hb => ?_, ?_⟩
      · rw [HVS.out, hR]
      · rw [HVS.out, hR]
        show _ = _
        rw [heap_setCell_other _ ⟨w.heap.size + 1, 1, none⟩ g _ (by simp; omega), heap_setCell_other _ ⟨w.heap.size + 1, 0, none⟩ g _ (by simp; omega)]
        exact hE
      · rw [HVS.out]
        refine ((HO.out.later hb4).same fun b hb hl => ?_).lower HB2.out.size
        have := (World.ownsRow.lt HO.out b hb).1
        rw [heap_setCell_other _ ⟨w.heap.size + 1, 1, none⟩ b _ (by simp; omega), heap_setCell_other _ ⟨w.heap.size + 1, 0, none⟩ b _ (by simp; omega)]
      · have := (World.ownsRow.lt HO.out b hb).2
        omega
      · have h4 : Below w.heap.size w w4 := HB3.out.trans (hb4.mono HB3.out.size)
        exact (h4.setCell (p := ⟨w.heap.size + 1, 0, none⟩) (by simp) _).setCell (p := ⟨w.heap.size + 1, 1, none⟩) (by simp) _
    clear hR hE hb4
    go_wp2
    refine bodyPost_ret (results_graph3 Tryz.results15 rfl _ _ _ _ _ _ _ rfl rfl rfl (set_two g0 g1 _ _).1 (set_two g0 g1 _ _).2) rfl ?_
    exact .inl ⟨kk, rfl, HEND.out⟩
end Go.Proofs.YtalfpbalekbinaaGreat

/-
  Blocks, pure: labels of what hangs together without a vertex; classes of edges that are joined pair by pair.
-/
namespace Go.Proofs.YtalfpbalekbinaaGreat
namespace Bl
open Df Lo

section
variable {n : Nat} {es : List (Int × Int)} {s : St} {v : Nat}

/-- By an edge's two ends as the graph has them. -/
theorem shutV_ends (h : VF n es s) {S : Nat → Prop} : ShutV es s v S ↔ ∀ k, k < es.length → eU es k ≠ v → eV es k ≠ v → (S (eU es k) ↔ S (eV es k)) := by
  constructor
  · intro hS k hk h1 h2
    rcases ends_two h hk with ⟨a, b⟩ | ⟨a, b⟩
    · have := hS k hk (by rw [a]; exact h1) (by rw [b]; exact h2)
      rw [a, b] at this
      exact this
    · have := hS k hk (by rw [a]; exact h2) (by rw [b]; exact h1)
      rw [a, b] at this
      exact this.symm
  · intro hS k hk h1 h2
    rcases ends_two h hk with ⟨a, b⟩ | ⟨a, b⟩
    · rw [a] at h1 ⊢
      rw [b] at h2 ⊢
      exact hS k hk h1 h2
    · rw [a] at h1 ⊢
      rw [b] at h2 ⊢
      exact (hS k hk h2 h1).symm
theorem connV_edge (h : VF n es s) {k : Nat} (hk : k < es.length) (h1 : eU es k ≠ v) (h2 : eV es k ≠ v) : ConnV es s v (eU es k) (eV es k) := fun _ hS => (shutV_ends h).1 hS k hk h1 h2

/-- Labels: -1 of v; else a vertex with which it hangs together without v. -/
structure LabV (n : Nat) (es : List (Int × Int)) (s : St) (v : Nat) (l : List Int) : Prop where
  len : l.length = n
  me : v < n → at_ l v = -1
  lab : ∀ u, u < n → u ≠ v → ∃ g : Nat, g < n ∧ g ≠ v ∧ at_ l u = (g : Int) ∧ ConnV es s v u g

theorem LabV.start {l : List Int} (hl : l.length = n) (h : ∀ u, u < n → at_ l u = if u = v then -1 else (u : Int)) : LabV n es s v l :=
  ⟨hl, fun hv => by rw [h v hv, if_pos rfl], fun u hu hne => ⟨u, hu, hne, by rw [h u hu, if_neg hne], ConnV.refl u⟩⟩

/-- One end gets the other's label. -/
theorem LabV.put {l : List Int} (L : LabV n es s v l) {a b : Nat} (ha : a < n) (hb : b < n) (hav : a ≠ v) (hbv : b ≠ v) (hc : ConnV es s v a b) : LabV n es s v (l.set a (at_ l b)) := by
  have hal : a < l.length := by rw [L.len]; exact ha
  refine ⟨by rw [List.length_set]; exact L.len, fun hv => ?_, fun u hu hne => ?_⟩
  · rw [at_set2 hal, if_neg (fun e => hav e.symm)]
    exact L.me hv
  · rw [at_set2 hal]
    by_cases e : u = a
    · rw [if_pos e]
      obtain ⟨g, h1, h2, h3, h4⟩ := L.lab b hb hbv
      exact ⟨g, h1, h2, h3, by rw [e]; exact hc.trans h4⟩
    · rw [if_neg e]
      exact L.lab u hu hne

/-- Nothing changes any more: the labels tell who hangs together. -/
theorem LabV.done {l : List Int} (h : VF n es s) (L : LabV n es s v l) (hall : ∀ k, k < es.length → eU es k ≠ v → eV es k ≠ v → at_ l (eU es k) = at_ l (eV es k)) {a b : Nat} (ha : a < n) (hb : b < n) (hav : a ≠ v) (hbv : b ≠ v) : at_ l a = at_ l b ↔ ConnV es s v a b := by
  constructor
  · intro heq
    obtain ⟨g1, _, _, e1, c1⟩ := L.lab a ha hav
    obtain ⟨g2, _, _, e2, c2⟩ := L.lab b hb hbv
    obtain rfl : g1 = g2 := by omega
    exact c1.trans c2.symm
  · intro hc
    have := (hc (fun u => at_ l u = at_ l a) ((shutV_ends h).2 fun k hk h1 h2 => by rw [hall k hk h1 h2])).1 rfl
    exact this.symm

/-- The sum of the labels that are no -1 gets less. -/
theorem sm_put {l : List Int} {a b : Nat} (ha : a < l.length) (h0 : 0 ≤ at_ l b) (hlt : at_ l b < at_ l a) : sm (l.set a (at_ l b)) < sm l := by
  have := sm_set l a (at_ l b) ha
  omega

/-- Edges that meet at v, by the ends as the graph has them. -/
def endG (es : List (Int × Int)) (i v : Nat) : Prop := eU es i = v ∨ eV es i = v
def othG (es : List (Int × Int)) (i v : Nat) : Nat := if eU es i = v then eV es i else eU es i
theorem endG_iff (h : VF n es s) {i : Nat} (hi : i < es.length) : endG es i v ↔ endAt es s i v := by
  unfold endG endAt
  rcases ends_two h hi with ⟨a, b⟩ | ⟨a, b⟩ <;> rw [a, b]
  exact Or.comm
theorem othG_eq (hv : Si.Val n es) (h : VF n es s) {i : Nat} (hi : i < es.length) (ha : endG es i v) : othG es i v = oth es s i v := by
  have hne := ends_ne hv h hi
  unfold othG oth
  rcases ends_two h hi with ⟨a, b⟩ | ⟨a, b⟩
  · rw [a, b]
  · rw [a, b] at hne
    rw [a, b]
    rcases ha with ha | ha
    · rw [if_pos ha, if_neg (fun e => hne (ha.trans e.symm))]
    · rw [if_pos ha, if_neg (fun e => hne (e.trans ha.symm))]

/-- Classes of edges that the pairs js have made, all pairs among them: just the blocks. -/
theorem gen_blocks (hv : Si.Val n es) (h : VF n es s) {js : List (Int × Int)} {c : Nat → Nat} (hg : Co.Gen es.length js c)
    (h1 : ∀ i k : Nat, i < es.length → k < es.length → ((i : Int), (k : Int)) ∈ js → Pair es s i k)
    (h2 : ∀ i k : Nat, i < k → k < es.length → Pair es s i k → ((i : Int), (k : Int)) ∈ js) {i k : Nat} (hi : i < es.length) (hk : k < es.length) : c i = c k ↔ hdf es s i = hdf es s k := by
  have hsym : ∀ {a b : Nat}, Pair es s a b → Pair es s b a := fun {a b} ⟨v, x, y, z⟩ => ⟨v, y, x, z.symm⟩
  have hp : ∀ a b, a < es.length → b < es.length → Pair es s a b → c a = c b := fun a b ha hb hab => by
    rcases Nat.lt_trichotomy a b with hlt | rfl | hlt
    · have := hg.meets _ (h2 a b hlt hb hab) ⟨by simp, by simpa using ha⟩ ⟨by simp, by simpa using hb⟩
      simpa using this
    · rfl
    · have := hg.meets _ (h2 b a hlt ha (hsym hab)) ⟨by simp, by simpa using hb⟩ ⟨by simp, by simpa using ha⟩
      exact (by simpa using this : c b = c a).symm
  constructor
  · intro hc
    have hm : Co.Meets es.length js (hdf es s) := fun j hj a1 a2 => by
      obtain ⟨x, y⟩ := j
      obtain ⟨a, rfl⟩ : ∃ a : Nat, x = (a : Int) := ⟨x.toNat, by have := a1.1; dsimp only at this; omega⟩
      obtain ⟨b, rfl⟩ : ∃ b : Nat, y = (b : Int) := ⟨y.toNat, by have := a2.1; dsimp only at this; omega⟩
      have ha : a < es.length := by have := a1.2; dsimp only at this; omega
      have hb : b < es.length := by have := a2.2; dsimp only at this; omega
      have := pair_head hv h ha hb (h1 a b ha hb hj) (hdf_of hv h ha) (hdf_of hv h hb)
      simpa using this
    rw [← hg.least _ hm i hi, ← hg.least _ hm k hk, hc]
  · intro he
    rw [(hdf_of hv h hi).joined hv h hp, (hdf_of hv h hk).joined hv h hp, he]
end
end Bl
end Go.Proofs.YtalfpbalekbinaaGreat

/-
  Blocks, pure: the document's classes of edges are the finder's.
-/
namespace Go.Proofs.YtalfpbalekbinaaGreat
namespace Bl
open Df Lo

section
variable {n : Nat} {es : List (Int × Int)} {s : St} {v : Nat}

theorem ends_at (hv : Si.Val n es) {i : Nat} {p : Int × Int} (hp : es[i]? = some p) : p.1 = (eU es i : Int) ∧ p.2 = (eV es i : Int) ∧ eU es i < n ∧ eV es i < n := by
  have hok := hv.each i p hp
  unfold Si.ok at hok
  have h1 : eU es i = p.1.toNat := by
    unfold eU Cs.fr
    rw [show 2 * i / 2 = i by omega, List.getD_eq_getElem?_getD, hp, if_pos (by omega)]
    rfl
  have h2 : eV es i = p.2.toNat := by
    unfold eV Cs.to
    rw [show 2 * i / 2 = i by omega, List.getD_eq_getElem?_getD, hp, if_pos (by omega)]
    rfl
  omega
theorem edge_of {k : Nat} (hk : k < es.length) : ∃ p, es[k]? = some p := ⟨_, List.getElem?_eq_getElem hk⟩
theorem shutE_iff (hv : Si.Val n es) (h : VF n es s) {S : Nat → Prop} : ShutE es (v : Int) S ↔ ShutV es s v S := by
  rw [shutV_ends h]
  constructor
  · intro hS k hk h1 h2
    obtain ⟨p, hp⟩ := edge_of hk
    obtain ⟨e1, e2, _⟩ := ends_at hv hp
    exact hS (eU es k) (eV es k) (by rw [← e1, ← e2]; exact List.mem_of_getElem? hp) (by omega) (by omega)
  · intro hS a b hab h1 h2
    obtain ⟨k, hk⟩ := List.getElem?_of_mem hab
    obtain ⟨e1, e2, _⟩ := ends_at hv hk
    have ha : a = eU es k := by dsimp only at e1; omega
    have hb : b = eV es k := by dsimp only at e2; omega
    rw [ha, hb]
    exact hS k (List.getElem?_eq_some_iff.1 hk).1 (by omega) (by omega)
theorem connE_iff (hv : Si.Val n es) (h : VF n es s) {a b : Nat} : ConnE es (v : Int) a b ↔ ConnV es s v a b :=
  ⟨fun hc S hS => hc S ((shutE_iff hv h).2 hS), fun hc S hS => hc S ((shutE_iff hv h).1 hS)⟩
theorem pairE_iff (hv : Si.Val n es) (h : VF n es s) {i k : Nat} (hi : i < es.length) (hk : k < es.length) : PairE es v i k ↔ endAt es s i v ∧ endAt es s k v ∧ ConnV es s v (oth es s i v) (oth es s k v) := by
  obtain ⟨p, hp⟩ := edge_of hi
  obtain ⟨q, hq⟩ := edge_of hk
  obtain ⟨p1, p2, p3, p4⟩ := ends_at hv hp
  obtain ⟨q1, q2, q3, q4⟩ := ends_at hv hq
  have ep : (p.1 = (v : Int) ∨ p.2 = (v : Int)) ↔ endG es i v := by unfold endG; omega
  have eq : (q.1 = (v : Int) ∨ q.2 = (v : Int)) ↔ endG es k v := by unfold endG; omega
  have op : (othE p v).toNat = othG es i v := by
    unfold othE othG
    by_cases e : eU es i = v
    · rw [if_pos (by omega), if_pos e]; omega
    · rw [if_neg (by omega), if_neg e]; omega
  have oq : (othE q v).toNat = othG es k v := by
    unfold othE othG
    by_cases e : eU es k = v
    · rw [if_pos (by omega), if_pos e]; omega
    · rw [if_neg (by omega), if_neg e]; omega
  constructor
  · rintro ⟨p', q', hp', hq', h1, h2, h3⟩
    rw [hp] at hp'
    rw [hq] at hq'
    cases hp'
    cases hq'
    rw [op, oq, othG_eq hv h hi (ep.1 h1), othG_eq hv h hk (eq.1 h2)] at h3
    exact ⟨(endG_iff h hi).1 (ep.1 h1), (endG_iff h hk).1 (eq.1 h2), (connE_iff hv h).1 h3⟩
  · rintro ⟨h1, h2, h3⟩
    have g1 := (endG_iff h hi).2 h1
    have g2 := (endG_iff h hk).2 h2
    refine ⟨p, q, hp, hq, ep.2 g1, eq.2 g2, ?_⟩
    rw [op, oq, othG_eq hv h hi g1, othG_eq hv h hk g2]
    exact (connE_iff hv h).2 h3
theorem pair_lt (hv : Si.Val n es) (h : VF n es s) {i : Nat} (hi : i < es.length) (ha : endAt es s i v) : v < n := by
  obtain ⟨p, hp⟩ := edge_of hi
  obtain ⟨_, _, p3, p4⟩ := ends_at hv hp
  rcases (endG_iff h hi).2 ha with e | e <;> omega

/-- The document's classes are the blocks by their least edges. -/
theorem ClE.is (hv : Si.Val n es) (h : VF n es s) {m : Nat → Nat} (hc : ClE n es m (fun _ _ _ => True)) {e : Nat} (he : e < es.length) : m e = mB es s e := by
  refine mB_one hc.norm (fun i k hi hk => ?_) he
  obtain ⟨js, h1, h2, h3⟩ := hc
  refine gen_blocks hv h h1 (fun a b ha hb hab => ?_) (fun a b hab hb hp => ?_) hi hk
  · obtain ⟨u, _, hp⟩ := h2 a b hab
    exact ⟨u, (pairE_iff hv h ha hb).1 hp⟩
  · obtain ⟨u, hp⟩ := hp
    exact h3 u a b (pair_lt hv h (by omega) hp.1) hab hb ((pairE_iff hv h (by omega) hb).2 hp) trivial
/-- Any two forests give the same classes. -/
theorem cntTo_congr {p q : Nat → Bool} : ∀ {k : Nat}, (∀ i, i < k → p i = q i) → Co.cntTo p k = Co.cntTo q k
  | 0, _ => rfl
  | k + 1, h => by rw [Co.cntTo, Co.cntTo, cntTo_congr fun i hi => h i (by omega), h k (by omega)]
theorem cntB_congr {m m' : Nat → Nat} {k : Nat} (h : ∀ i, i < k → m i = m' i) : cntB m k = cntB m' k := cntTo_congr fun i hi => by rw [h i hi]
theorem numB_congr {m m' : Nat → Nat} {E : Nat} (hn : Co.Norm E m') (h : ∀ i, i < E → m i = m' i) {e : Nat} (he : e < E) : numB m e = numB m' e := by
  unfold numB
  rw [h e he]
  exact cntB_congr fun i hi => h i (by have := hn.le e he; omega)
section
variable {f f' : Nat → Nat} (hf : ∀ e, e < es.length → f e = f' e)
include hf
open Classical in
theorem hitB_congr (x : Int) (k : Nat) : hitB es f x k es.length = hitB es f' x k es.length := by
  unfold hitB hitTo
  congr 1
  apply propext
  constructor
  · rintro ⟨i, p, h1, h2, h3, h4⟩
    exact ⟨i, p, h1, h2, by rw [← hf i h1]; exact h3, h4⟩
  · rintro ⟨i, p, h1, h2, h3, h4⟩
    exact ⟨i, p, h1, h2, by rw [hf i h1]; exact h3, h4⟩
theorem inB_congr (x : Int) (c : Nat) : inB es f x c = inB es f' x c := cntTo_congr fun i _ => hitB_congr hf x i
theorem cutsTo_congr (c k : Nat) : cutsTo es f c k = cutsTo es f' c k := by
  unfold cutsTo
  congr 1
  exact List.filter_congr fun v _ => by rw [inB_congr hf]
open Classical in
theorem brTo_congr (k : Nat) (hk : k ≤ es.length) : brTo f es.length k = brTo f' es.length k := by
  unfold brTo
  congr 1
  refine List.filter_congr fun i hi => ?_
  have hi := List.mem_range.1 hi
  unfold lone Lone
  congr 1
  apply propext
  constructor
  · intro h j hj hne
    rw [← hf j hj, ← hf i (by omega)]
    exact h j hj hne
  · intro h j hj hne
    rw [hf j hj, hf i (by omega)]
    exact h j hj hne
theorem vsTo_congr (k : Int) (j : Nat) : vsTo es f k j = vsTo es f' k j := by
  unfold vsTo
  congr 1
  exact List.filter_congr fun v _ => by rw [hitB_congr hf]
end

/-- What the document says of its classes, said of the finder's. -/
theorem ClE.num (hv : Si.Val n es) (h : VF n es s) {m : Nat → Nat} (hc : ClE n es m (fun _ _ _ => True)) : (∀ e, e < es.length → numB m e = numB (mB es s) e) ∧ cntB m es.length = cntB (mB es s) es.length :=
  ⟨fun _ he => numB_congr mB_norm (fun _ hi => hc.is hv h hi) he, cntB_congr fun _ hi => hc.is hv h hi⟩
end
end Bl
end Go.Proofs.YtalfpbalekbinaaGreat
