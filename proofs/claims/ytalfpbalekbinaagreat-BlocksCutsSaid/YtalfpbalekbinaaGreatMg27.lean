import Derived.Test.YtalfpbalekbinaaGreatMg26
import Derived.Deep.RegionHeld3
/-
  graph: a block as a graph of its own.
-/
namespace Go.Proofs.YtalfpbalekbinaaGreat
open Go.RowKit Go.Sort

theorem flatE_zeros : ∀ n : Nat, flatE (List.replicate n ((0 : Int), (0 : Int))) = List.replicate (n * 2) (.int .i64 0)
  | 0 => rfl
  | n + 1 => by
    have := flatE_zeros n
    rw [show (n + 1) * 2 = n * 2 + 1 + 1 by omega, List.replicate_succ, List.replicate_succ, List.replicate_succ, ← this]
    rfl
theorem made_edges (n : Nat) : (madeCells #[.int .i64 0, .int .i64 0] (n * 2)).toList = flatE (List.replicate n ((0 : Int), (0 : Int))) := by
  rw [flatE_zeros]
  apply List.ext_getElem?
  intro j
  by_cases hj : j < n * 2
  · have : j % 2 = 0 ∨ j % 2 = 1 := by omega
    rcases this with e | e <;> simp [madeCells, hj, e]
  · simp [madeCells, hj]

/-- A graph in memory of its own is answered. -/
def GrPost (N : Nat) (l : List (Int × Int)) (w : World) (e : Ending) (w' : World) : Prop :=
  ∃ g, e = .returned (.agg #[.int .i64 (N : Int), .slice (some ⟨g, 0, none⟩) l.length l.length]) ∧ EdgesBlk w' g l ∧ w.heap.size ≤ g ∧ Below w.heap.size w w'

def grVal (w : World) (p n ge m i e ua vb : Nat) (pu pv : Int) (av : Value) : Nat → Value
  | 0 => .slice (some ⟨ge, 0, none⟩) m m
  | 1 => .int .i64 (i : Int)
  | 2 => .slice (some ⟨w.heap.size + 1, 0, none⟩) n n
  | 3 => .pointer (some ⟨p, 0, none⟩)
  | 4 => .pointer (some ⟨p, 0, none⟩)
  | 5 => .pointer (some ⟨p, 0, none⟩)
  | 6 => av
  | 7 => .int .i64 (e : Int)
  | 8 => .int .i64 (2 * (e : Int))
  | 9 => .int .i64 (ua : Int)
  | 10 => .pointer (some ⟨w.heap.size + 1, ua, none⟩)
  | 11 => .int .i64 pu
  | 12 => .slice (some ⟨w.heap.size + 1, 0, none⟩) n n
  | 13 => .pointer (some ⟨p, 0, none⟩)
  | 14 => .pointer (some ⟨p, 0, none⟩)
  | 15 => .pointer (some ⟨p, 0, none⟩)
  | 16 => av
  | 17 => .int .i64 (e : Int)
  | 18 => .int .i64 (2 * (e : Int))
  | 19 => .int .i64 (vb : Int)
  | 20 => .pointer (some ⟨w.heap.size + 1, vb, none⟩)
  | 21 => .int .i64 pv
  | 22 => .agg #[.int .i64 pu, .int .i64 pv]
  | 23 => .pointer (some ⟨ge, i * 2, none⟩)
  | _ => undef
section
variable {w : World} {p : Nat} {av : Value} {mb : Nat} {lo : Option Addr} {lc : Nat} {ov : Value} {n : Nat} {es : List (Int × Int)} {s : Df.St} {F : List (List Nat)} {D : DataW Value} {K : List Nat}

set_option maxRecDepth 100000 in
set_option maxHeartbeats 16000000 in
theorem graph_any9 (kk : Nat) (hkk : kk < K.length) (vo : Option Addr) (vc : Nat) (h : PtIn w p av mb lo lc ov n es s F D K) (hvs : IntsAt w vo (Bl.vsTo es (Bl.numB (Bl.mB es s)) (kk : Int) n)) :
    Calls Tryz.prog 28 #[.pointer (some ⟨p, 0, none⟩), .int .i64 (kk : Int), .slice vo (Bl.vsTo es (Bl.numB (Bl.mB es s)) (kk : Int) n).length vc] w (GrPost (Bl.vsTo es (Bl.numB (Bl.mB es s)) (kk : Int) n).length (Bl.bkTo es (Bl.numB (Bl.mB es s)) (Bl.vsTo es (Bl.numB (Bl.mB es s)) (kk : Int) n) kk es.length) w) := by
  obtain ⟨i0, hi, hz0, hz1, hz2⟩ := info_parts Tryz.infoNum
  obtain ⟨j0, hje, hy0, hy1, hy2⟩ := info_parts Tryz.infoEdge
  have hval := h.val
  have hhi := hval.hi
  obtain ⟨hKl, hfew⟩ := h.few
  obtain ⟨vs, hvse⟩ : ∃ vs, Bl.vsTo es (Bl.numB (Bl.mB es s)) (kk : Int) n = vs := ⟨_, rfl⟩
  have hvl : vs.length ≤ n := by rw [← hvse]; exact Bl.vsTo_length _ _
  have HVN : Hid vs.Nodup := by rw [← hvse]; exact Bl.vsTo_nodup _ _
  have HV0 : Hid (∀ x ∈ vs, 0 ≤ x ∧ x < (n : Int)) := fun x hx => by
    rw [← hvse] at hx
    obtain ⟨v, rfl, hv, _⟩ := Bl.mem_vsTo.1 hx
    omega
  have HEI : Hid (∀ e q, es[e]? = some q → Bl.numB (Bl.mB es s) e = kk → q.1 ∈ vs ∧ q.2 ∈ vs) := fun e q hq hf => by
    rw [← hvse]
    exact Bl.ends_in hval hq hf
  rw [hvse] at hvs ⊢
  clear hvse
  obtain ⟨E, hE⟩ : ∃ E, (List.range es.length).filter (fun e => decide (Bl.numB (Bl.mB es s) e = kk)) = E := ⟨_, rfl⟩
  have HBK : Hid (Bl.bkTo es (Bl.numB (Bl.mB es s)) vs kk es.length = E.map fun e => Bl.nmE vs (es.getD e (0, 0))) := by
    show _ = _
    rw [← hE]
    rfl
  have HEM : Hid (∀ e ∈ E, e < es.length ∧ Bl.numB (Bl.mB es s) e = kk) := fun e he => by
    rw [← hE, List.mem_filter, List.mem_range, decide_eq_true_iff] at he
    exact he
  have hEl : E.length ≤ es.length := by
    rw [← hE]
    exact Nat.le_trans (List.length_filter_le _ _) (by simp)
  obtain ⟨t, ht⟩ : ∃ t, K[kk]? = some t := ⟨_, List.getElem?_eq_getElem hkk⟩
  obtain ⟨L, hL, hLt, htl⟩ := h.blockAt ht
  have hLlen : L.length ≤ 4194304 := by
    have := Bl.nodup_sub (l1 := L) (l2 := List.range es.length) (h.pt.one L hL).2.1 (fun e he => List.mem_range.2 (h.pt.lt hL he))
    simp at this
    omega
  have HSRT : Hid (((L.map (Nat.cast : Nat → Int)).mergeSort fun x y => decide (x ≤ y)) = E.map Nat.cast) := by
    show _ = _
    rw [← hE]
    exact Bl.sorted_block h.pt h.key ht hL hLt
  obtain ⟨gL, hgLl, hlks⟩ := h.mp.looks hL (by omega)
  rw [hLt] at hlks
  obtain ⟨bo, oo, elo, d0⟩ := h.kat kk (t : Int) (by rw [List.getElem?_map, ht]; rfl)
  subst elo
  have HX : Hid (∀ X, Below w.heap.size w X → X.cell? ⟨p, 1, none⟩ = some (.map (some mb)) ∧ X.cell? ⟨p, 2, none⟩ = some (.slice (some ⟨bo, oo, none⟩) K.length lc) ∧ X.cell? ⟨bo, oo + kk, none⟩ = some (.int .i64 (t : Int)) ∧ (Instr.lookup 54 (.map (some mb)) (.int .i64 (t : Int)) false).run Tryz.prog X = .ok (.slice (some ⟨gL, 0, none⟩) L.length L.length) X ∧ Below w.heap.size w X) := fun X hX =>
    ⟨(h.later hX).cells.2.1, (h.later hX).cells.2.2.1, (hX.cell (p := ⟨bo, oo + kk, none⟩) (block_lt_of_cell d0)).trans d0, (hlks X hX).1, hX⟩
  have HGL : Hid (∀ X, Below w.heap.size w X → IntsAt X (some ⟨gL, 0, none⟩) (L.map Nat.cast)) := fun X hX => (hlks X hX).2.at
  have HAD : Hid (∀ X, Below w.heap.size w X → X.cell? ⟨p, 0, none⟩ = some av) := fun X hX => (h.later hX).cells.1
  have HFR : Hid (∀ X e (q : Int × Int), Below w.heap.size w X → e < es.length → es[e]? = some q → Calls Tryz.prog 45 #[av, .int .i64 (2 * (e : Int))] X fun e w' => e = .returned (.int .i64 q.1) ∧ w' = X) := fun X e q hX he hq => by
    have hok := hval.each e q hq
    unfold Si.ok at hok
    have := from_any av n es ((2 * e : Nat) : Int) X (h.adj.later hX)
    rw [Cs.frI_in (by omega)] at this
    have e1 : ((Cs.fr es (2 * e) : Nat) : Int) = q.1 := by
      unfold Cs.fr
      rw [show 2 * e / 2 = e by omega, List.getD_eq_getElem?_getD, hq, if_pos (by omega)]
      simp
      omega
    rw [e1] at this
    simpa using this
  have HTO : Hid (∀ X e (q : Int × Int), Below w.heap.size w X → e < es.length → es[e]? = some q → Calls Tryz.prog 46 #[av, .int .i64 (2 * (e : Int))] X fun e w' => e = .returned (.int .i64 q.2) ∧ w' = X) := fun X e q hX he hq => by
    have hok := hval.each e q hq
    unfold Si.ok at hok
    have := to_any av n es ((2 * e : Nat) : Int) X (h.adj.later hX)
    rw [Cs.toI_in (by omega)] at this
    have e1 : ((Cs.to es (2 * e) : Nat) : Int) = q.2 := by
      unfold Cs.to
      rw [show 2 * e / 2 = e by omega, List.getD_eq_getElem?_getD, hq, if_pos (by omega)]
      simp
      omega
    rw [e1] at this
    simpa using this
  have HVS := Nu.hid hvs
  obtain ⟨w1, hw1⟩ : ∃ w1, w1 = w.alloc (.cells #[.int .i64 0, .slice none 0 0] 24) := ⟨_, rfl⟩
  have hb1 : Below w.heap.size w w1 := by rw [hw1]; exact (Below.refl _ _).alloc (Nat.le_refl _) _
  have hG1 : w1.heap[w.heap.size]? = some (.cells #[.int .i64 0, .slice none 0 0] 24 (0, 0)) := by rw [hw1]; exact heap_alloc_new w _
  have hs1 : w1.heap.size = w.heap.size + 1 := by rw [hw1]; simp
  have HN := Nu.hid (aN_any av n es w1 (h.adj.later hb1))
  have c0 := HAD.out w1 hb1
  have HW1 := Nu.hid hw1
  have HB1 := Nu.hid hb1
  have HG1 := Nu.hid hG1
  have HS1 := Nu.hid hs1
  clear hw1 hb1 hG1 hs1 h hvs hlks hE ht hL hLt hgLl d0 hval
  rw [HW1.out] at c0
  go_enter Tryz.func28, Tryz.ntmps28
  go_wp2_with (first | (go_at_call 34; rw [← HW1.out]; refine HN.out.mono ?_; rintro e w2 ⟨rfl, hw2⟩; obtain rfl := hw2.symm) | (at_make; refine wpList_make_full _ rfl _ _ 26 rfl w1.heap.size 3 i0 (.int .i64 0) 1 Tryz.underlying26 hi hz0 hz1 _ _ _ _ n rfl rfl rfl rfl (by rw [hz2]; omega) (by unfold maxLen; omega) (Nat.le_refl _) ?_; refine Hid.out ?_))
  refine Nu.hid ?_
  intro w2 hrow hg2
  rw [made_zeros] at hrow
  have hik := ints_of_row hrow
  rw [HS1.out] at hik ⊢
  have hb2 : Below w1.heap.size w1 w2 := (Below.refl _ _).grown hg2 (Nat.le_refl _) (fun j hj => by cases hj)
  have HB2 : Hid (Below w.heap.size w w2) := HB1.out.trans (hb2.mono HB1.out.size)
  have HG2 : Hid (w2.heap[w.heap.size]? = some (.cells #[.int .i64 0, .slice none 0 0] 24 (0, 0))) := (hb2.block _ (by have := HS1.out; omega)).trans HG1.out
  have HI2 := Nu.hid hik
  clear hrow hg2 hik hb2 c0 HG1
  go_wp2
  go_loopw [22] (fun cv wr => ∃ j : Nat, j ≤ vs.length ∧ cv = .int .i64 (j : Int) ∧ ∃ l, IntsBlk wr (w.heap.size + 1) l ∧ Bl.Names n vs j l ∧ wr.heap[w.heap.size]? = some (.cells #[.int .i64 0, .slice none 0 0] 24 (0, 0)) ∧ Below w.heap.size w wr) (fun cv _ => vs.length - (intOf cv).toNat)
  case atStart => exact ⟨0, Nat.zero_le _, rfl, _, HI2.out, ⟨by simp, fun i x hi => by omega⟩, HG2.out, HB2.out⟩
  case round =>
    clear HI2 HG2 HB2
    obtain ⟨j, hj, rfl, l, hI, hN, hG, hb⟩ := hrel
    have HI := Nu.hid hI
    have HNM := Nu.hid hN
    have HG := Nu.hid hG
    have HB := Nu.hid hb
    by_cases hjn : j < vs.length
    · have hlti : (j : Int) < (vs.length : Int) := by omega
      have k0 : (0 : Int) ≤ (j : Int) := by omega
      obtain ⟨x, hx⟩ : ∃ x, vs[j]? = some x := ⟨_, List.getElem?_eq_getElem hjn⟩
      obtain ⟨bv, ovv, evo, dv⟩ := (HVS.out.later hb) j x hx
      subst evo
      obtain ⟨x0, x1⟩ := HV0.out x (List.mem_of_getElem? hx)
      obtain ⟨xn, hxn⟩ : ∃ xn : Nat, x = (xn : Int) := ⟨x.toNat, by omega⟩
      have hNp := hN.put HVN.out HV0.out hx
      subst hxn
      rw [Int.toNat_natCast] at hNp
      obtain ⟨y, hy⟩ : ∃ y, l[xn]? = some y := ⟨_, List.getElem?_eq_getElem (by rw [hN.1]; omega)⟩
      have cy := hI.cell hy
      have cf := hI.free xn
      have HEND : Hid (IntsBlk (wr.setCell ⟨w.heap.size + 1, xn, none⟩ (.int .i64 (j : Int))) (w.heap.size + 1) (l.set xn (j : Int)) ∧ (wr.setCell ⟨w.heap.size + 1, xn, none⟩ (.int .i64 (j : Int))).heap[w.heap.size]? = some (.cells #[.int .i64 0, .slice none 0 0] 24 (0, 0)) ∧ Below w.heap.size w (wr.setCell ⟨w.heap.size + 1, xn, none⟩ (.int .i64 (j : Int)))) :=
        ⟨hI.set xn _, (heap_setCell_other wr ⟨w.heap.size + 1, xn, none⟩ w.heap.size _ (by simp)).trans hG, hb.setCell (p := ⟨w.heap.size + 1, xn, none⟩) (by simp) _⟩
      have HNP := Nu.hid hNp
      clear hI hN hG hb hx hy hNp
      go_wp2
      go_roundw
      case rel => exact ⟨j + 1, by omega, by go_num, _, HEND.out.1, HNP.out, HEND.out.2.1, HEND.out.2.2⟩
      case measure => simp [intOf]; omega
    · have hlti : ¬ (j : Int) < (vs.length : Int) := by omega
      obtain rfl : j = vs.length := by omega
      have HX0 := HX.out
      have hS0 := HX.out _ hb
      have hbd : Below w.heap.size w wr.drew := hb.drew
      have hbz := hb.size
      have k0 : (0 : Int) ≤ (kk : Int) := by omega
      have k1 : (kk : Int) < (K.length : Int) := by omega
      have HVL : Hid (∀ X, Below w.heap.size w X → Calls Tryz.prog 44 #[.slice (some ⟨gL, 0, none⟩) L.length L.length] X (ValPost (some ⟨gL, 0, none⟩) L.length L.length X)) := fun X _ => values_any _ _ _ X
      have HSO : Hid (∀ X Bs, Below w.heap.size w X → Boxed X Bs 26 (.slice (some ⟨gL, 0, none⟩) L.length L.length) → Calls Tryz.prog 43 #[.func (.func 63) #[] #[.pointer (some ⟨Bs, 0, none⟩)]] X fun e w' => ∃ a c, e = .returned (.slice a E.length c) ∧ IntsAt w' a (E.map Nat.cast) ∧ Below X.heap.size X w') := fun X Bs hX hB => by
        have := sorted_any9 Bs L.length (some ⟨gL, 0, none⟩) (L.map Nat.cast) X (by rw [List.length_map]; omega) (by rw [List.length_map]; exact hB) (HGL.out X hX)
        refine this.mono ?_
        rintro e w' ⟨a, k, c, rfl, h1, h2⟩
        rw [HSRT.out] at h1
        obtain ⟨a', c', e1, h3, _⟩ := h1.form
        rw [List.length_map] at e1
        cases e1
        exact ⟨_, _, rfl, h3, h2⟩
      clear hI hN hG HX0 hS0
      go_wp2
      go_region_held3 (fun X => X.cell? ⟨p, 1, none⟩ = some (.map (some mb)) ∧ X.cell? ⟨p, 2, none⟩ = some (.slice (some ⟨bo, oo, none⟩) K.length lc) ∧ X.cell? ⟨bo, oo + kk, none⟩ = some (.int .i64 (t : Int)) ∧ (Instr.lookup 54 (.map (some mb)) (.int .i64 (t : Int)) false).run Tryz.prog X = .ok (.slice (some ⟨gL, 0, none⟩) L.length L.length) X ∧ Below w.heap.size w X)
        (exact HX.out _ (by first | assumption | exact hbd))
        ((first
          | (go_at_call 44; refine (HVL.out _ (by first | assumption | exact hbd)).mono ?_; rintro e w3 ⟨Bs, rfl, hBs, hbox, hb3⟩; have hb3w : Below w.heap.size w w3 := Below.trans (by first | assumption | exact hbd) (hb3.mono (Below.size (by first | assumption | exact hbd))))
          | (go_at_call 43; refine (HSO.out _ Bs (by first | assumption | exact hbd) hbox).mono ?_; rintro e w4 ⟨ea, ec, rfl, hea, hb4⟩; have hb4w : Below w.heap.size w w4 := Below.trans (by first | assumption | exact hbd) (hb4.mono (Below.size (by first | assumption | exact hbd))))))
      have hwr4 : Below wr.heap.size wr w4 := ((Below.refl _ _).drew.trans hb3).trans (hb4.mono (by have := hb3.size; simpa using this))
      have HI4 := Nu.hid (HI.out.later hwr4)
      have HG4 : Hid (w4.heap[w.heap.size]? = some (.cells #[.int .i64 0, .slice none 0 0] 24 (0, 0))) := (hwr4.block _ (lt_of_block HG.out)).trans HG.out
      have HEA := Nu.hid hea
      have HB4 := Nu.hid hb4w
      have hs4 : w.heap.size + 1 < w4.heap.size := HI4.out.lt
      obtain ⟨R, hR⟩ : ∃ R, (E.map fun e => Bl.nmE vs (es.getD e (0, 0))) = R := ⟨_, rfl⟩
      have hRl : R.length = E.length := by rw [← hR, List.length_map]
      have HR := Nu.hid hR
      clear hwr4 hb hbd hbz hb3 hb4 hb4w hb3w hbox hBs hea HI HG HB hR
      go_wp2_with (at_make; refine wpList_make_full _ rfl _ _ 22 rfl w4.heap.size 46 j0 (.agg #[.int .i64 0, .int .i64 0]) 2 Tryz.underlying22 hje hy0 hy1 _ _ _ _ E.length rfl rfl rfl rfl (by rw [hy2]; omega) (by unfold maxLen; omega) (Nat.le_refl _) ?_; refine Hid.out ?_)
      refine Nu.hid ?_
      intro w5 hrow hg5
      rw [made_edges] at hrow
      have hek := edges_of_row hrow
      have hb5 : Below w4.heap.size w4 w5 := (Below.refl _ _).grown hg5 (Nat.le_refl _) (fun j hj => by cases hj)
      have HI5 := Nu.hid (HI4.out.later hb5)
      have HG5 : Hid (w5.heap[w.heap.size]? = some (.cells #[.int .i64 0, .slice none 0 0] 24 (0, 0))) := (hb5.block _ (by omega)).trans HG4.out
      have HB5 := Nu.hid hb5
      have HE5 : Hid (EdgesBlk w5 w4.heap.size (Bl.fillE R 0)) := by
        show EdgesBlk _ _ _
        rw [Bl.fillE_zero, hRl]
        exact hek
      obtain ⟨ge, hge⟩ : ∃ ge, ge = w4.heap.size := ⟨_, rfl⟩
      have hges : w.heap.size + 1 < ge := by omega
      rw [← hge] at HE5 ⊢
      have HGE := Nu.hid hge
      clear hrow hg5 hek hb5 HI4 HG4 hge hs4
      go_wp2
      go_loopw [51] (fun cv wr => ∃ i : Nat, i ≤ E.length ∧ cv = .int .i64 (i : Int) ∧ EdgesBlk wr ge (Bl.fillE R i) ∧ IntsBlk wr (w.heap.size + 1) l ∧ wr.heap[w.heap.size]? = some (.cells #[.int .i64 0, .slice none 0 0] 24 (0, 0)) ∧ Below w4.heap.size w4 wr) (fun cv _ => E.length - (intOf cv).toNat)
      case atStart => exact ⟨0, Nat.zero_le _, rfl, HE5.out, HI5.out, HG5.out, HB5.out⟩
      case round =>
        clear HE5 HI5 HG5 HB5
        obtain ⟨i, hi5, rfl, hEb, hI, hG, hb5⟩ := hrel
        have hbw : Below w.heap.size w wr := HB4.out.trans (hb5.mono HB4.out.size)
        have HEB := Nu.hid hEb
        have HI := Nu.hid hI
        have HG := Nu.hid hG
        have HB5 := Nu.hid hb5
        by_cases hin : i < E.length
        · have hlti : (i : Int) < (E.length : Int) := by omega
          have k2 : (0 : Int) ≤ (i : Int) := by omega
          obtain ⟨e, he⟩ : ∃ e, E[i]? = some e := ⟨_, List.getElem?_eq_getElem hin⟩
          obtain ⟨hel, hek⟩ := HEM.out e (List.mem_of_getElem? he)
          obtain ⟨q, hq⟩ : ∃ q, es[e]? = some q := ⟨_, List.getElem?_eq_getElem hel⟩
          obtain ⟨q1, q2⟩ := HEI.out e q hq hek
          have hRi : R[i]? = some (Bl.nmE vs q) := by
            rw [← HR.out, List.getElem?_map, he]
            simp [List.getD_eq_getElem?_getD, hq]
          obtain ⟨be, oe, eea, de⟩ := (HEA.out.later hb5) i (e : Int) (by rw [List.getElem?_map, he]; rfl)
          subst eea
          obtain ⟨u0, u1⟩ := HV0.out _ q1
          obtain ⟨v0, v1⟩ := HV0.out _ q2
          have cu := hI.cell (HNM.out.at q1)
          have cv := hI.cell (HNM.out.at q2)
          obtain ⟨z0, z1⟩ := hEb.cells (Bl.fillE_at (l := R) (i := i) (by omega))
          have f0 := hEb.free (i * 2)
          have f1 := hEb.free (i * 2 + 1)
          have ca := HAD.out _ hbw
          have HF := Nu.hid (HFR.out wr.drew e q hbw.drew hel hq)
          have HT := Nu.hid (HTO.out wr.drew e q hbw.drew hel hq)
          have HFS := Nu.hid (Bl.fillE_set hRi)
          have hwe : (2 * (e : Int)) = ((2 * e : Nat) : Int) := by omega
          obtain ⟨qa, qb⟩ := q
          obtain ⟨ua, rfl⟩ : ∃ ua : Nat, qa = (ua : Int) := ⟨qa.toNat, by omega⟩
          obtain ⟨vb, rfl⟩ : ∃ vb : Nat, qb = (vb : Int) := ⟨qb.toNat, by omega⟩
          rw [Int.toNat_natCast] at cu cv
          unfold Bl.nmE at HFS
          obtain ⟨pu, hpu⟩ : ∃ pu, Bl.place vs (ua : Int) = pu := ⟨_, rfl⟩
          obtain ⟨pv, hpv⟩ : ∃ pv, Bl.place vs (vb : Int) = pv := ⟨_, rfl⟩
          rw [hpu, hpv] at HFS
          rw [hpu] at cu
          rw [hpv] at cv
          clear hEb hI hG hb5 hbw he hq q1 q2 hRi hpu hpv hwe HFR HTO
          go_wp2
          refine wp_region_any (by kernel_rfl) ?_
          have ca' : wr.drew.cell? ⟨p, 0, none⟩ = some av := ca
          have cu' : wr.drew.cell? ⟨w.heap.size + 1, ua, none⟩ = some (.int .i64 pu) := cu
          have cv' : wr.drew.cell? ⟨w.heap.size + 1, vb, none⟩ = some (.int .i64 pv) := cv
          have z0' : wr.drew.cell? ⟨ge, i * 2, none⟩ = some (.int .i64 0) := z0
          have z1' : wr.drew.cell? ⟨ge, i * 2 + 1, none⟩ = some (.int .i64 0) := z1
          have f0' : wr.drew.frozen? ⟨ge, i * 2, none⟩ = false := f0
          have f1' : wr.drew.frozen? ⟨ge, i * 2 + 1, none⟩ = false := f1
          have h2e : IntKind.i64.wrap (2 * (e : Int)) = 2 * (e : Int) := by rw [IntKind.wrap_i64]; omega
          have iu0 : (0 : Int) ≤ (ua : Int) := by omega
          have iu1 : (ua : Int) < (n : Int) := u1
          have iv0 : (0 : Int) ≤ (vb : Int) := by omega
          have iv1 : (vb : Int) < (n : Int) := v1
          refine AnyOrd.anyP (grVal w p n ge E.length i e ua vb pu pv av) (fun Ls V => if Ls 24 = true then V = (wr.drew.setCell ⟨ge, i * 2, none⟩ (.int .i64 pu)).setCell ⟨ge, i * 2 + 1, none⟩ (.int .i64 pv) else V = wr.drew) 85 rfl (by kernel_rfl) rfl ?_ ?_
          · intro j o Ls V ev ho hLi hC haft hdc he1 he2 hec hef
            have hc : j = 0 ∨ j = 1 ∨ j = 2 ∨ j = 3 ∨ j = 4 ∨ j = 5 ∨ j = 6 ∨ j = 7 ∨ j = 8 ∨ j = 9 ∨ j = 10 ∨ j = 11 ∨ j = 12 ∨ j = 13 ∨ j = 14 ∨ j = 15 ∨ j = 16 ∨ j = 17 ∨ j = 18 ∨ j = 19 ∨ j = 20 ∨ j = 21 ∨ j = 22 ∨ j = 23 ∨ j = 24 := by
              have : j < 25 := (Array.getElem?_eq_some_iff.1 ho).1
              omega
            have hdn : ∀ k, k < 24 → Ls 24 = true → Ls k = true := fun k hk h7 => by
              have : k = 0 ∨ k = 1 ∨ k = 2 ∨ k = 3 ∨ k = 4 ∨ k = 5 ∨ k = 6 ∨ k = 7 ∨ k = 8 ∨ k = 9 ∨ k = 10 ∨ k = 11 ∨ k = 12 ∨ k = 13 ∨ k = 14 ∨ k = 15 ∨ k = 16 ∨ k = 17 ∨ k = 18 ∨ k = 19 ∨ k = 20 ∨ k = 21 ∨ k = 22 ∨ k = 23 := by omega
              rcases this with rfl | rfl | rfl | rfl | rfl | rfl | rfl | rfl | rfl | rfl | rfl | rfl | rfl | rfl | rfl | rfl | rfl | rfl | rfl | rfl | rfl | rfl | rfl | rfl
              iterate 23 (· exact hdc 24 _ rfl h7 ⟨_, .phase⟩ (by simp) rfl)
              · exact hdc 24 _ rfl h7 ⟨23, .data⟩ (by simp) rfl
            have hV : V = wr.drew := by
              cases h7 : Ls 24 with
              | false =>
                rw [h7] at hC
                exact hC
              | true =>
                exfalso
                by_cases e24 : j = 24
                · rw [e24, h7] at hLi
                  cases hLi
                · have : j < 25 := (Array.getElem?_eq_some_iff.1 ho).1
                  have := hdn j (by omega) h7
                  rw [hLi] at this
                  cases this
            subst hV
            have hoth : j ≠ 24 → (if AnyOrd.updB Ls j 24 = true then wr.drew = (wr.drew.setCell ⟨ge, i * 2, none⟩ (.int .i64 pu)).setCell ⟨ge, i * 2 + 1, none⟩ (.int .i64 pv) else wr.drew = wr.drew) := fun hj => by
              have e1 : AnyOrd.updB Ls j 24 = Ls 24 := if_neg (fun e => hj e.symm)
              rw [e1]
              exact hC
            clear hC
            rcases hc with rfl | rfl | rfl | rfl | rfl | rfl | rfl | rfl | rfl | rfl | rfl | rfl | rfl | rfl | rfl | rfl | rfl | rfl | rfl | rfl | rfl | rfl | rfl | rfl | rfl <;> obtain rfl := Option.some.inj ho
            · have e1 : ev (.tmp 11) = .slice (some ⟨ge, 0, none⟩) E.length E.length := he2 11 (by kernel_rfl)
              exact AnyOrd.gives_value (w' := wr.drew) (by simp [execOp, go_sem, e1]; rfl) ⟨rfl, hoth (by decide)⟩
            · have e1 : ev (.tmp 12) = .int .i64 (i : Int) := he2 12 (by kernel_rfl)
              exact AnyOrd.gives_value (w' := wr.drew) (by simp [execOp, go_sem, e1]; rfl) ⟨rfl, hoth (by decide)⟩
            · have e1 : ev (.tmp 7) = .slice (some ⟨w.heap.size + 1, 0, none⟩) n n := he2 7 (by kernel_rfl)
              exact AnyOrd.gives_value (w' := wr.drew) (by simp [execOp, go_sem, e1]; rfl) ⟨rfl, hoth (by decide)⟩
            · have e1 : ev (.tmp 0) = .pointer (some ⟨p, 0, none⟩) := he2 0 (by kernel_rfl)
              exact AnyOrd.gives_value (w' := wr.drew) (by simp [execOp, go_sem, e1]; rfl) ⟨rfl, hoth (by decide)⟩
            · have e1 : ev (.tmp 59) = .pointer (some ⟨p, 0, none⟩) := he1 3 59 (by omega) rfl (by decide)
              exact AnyOrd.gives_value (v := .pointer (some ⟨p, 0, none⟩)) (w' := wr.drew) (by simp [execOp, go_sem, e1]) ⟨rfl, hoth (by decide)⟩
            · have e1 : ev (.tmp 60) = .pointer (some ⟨p, 0, none⟩) := he1 4 60 (by omega) rfl (by decide)
              exact AnyOrd.gives_value (v := .pointer (some ⟨p, 0, none⟩)) (w' := wr.drew) (by simp [execOp, go_sem, e1]) ⟨rfl, hoth (by decide)⟩
            · have e1 : ev (.tmp 61) = .pointer (some ⟨p, 0, none⟩) := he1 5 61 (by omega) rfl (by decide)
              exact AnyOrd.gives_value (v := av) (w' := wr.drew) (by simp [execOp, go_sem, e1, ca']) ⟨rfl, hoth (by decide)⟩
            · have e1 : ev (.tmp 13) = .int .i64 (e : Int) := he2 13 (by kernel_rfl)
              exact AnyOrd.gives_value (w' := wr.drew) (by simp [execOp, go_sem, e1]; rfl) ⟨rfl, hoth (by decide)⟩
            · have e1 : ev (.tmp 63) = .int .i64 (e : Int) := he1 7 63 (by omega) rfl (by decide)
              exact AnyOrd.gives_value (v := .int .i64 (2 * (e : Int))) (w' := wr.drew) (by simp [execOp, go_sem, e1, hec, h2e]) ⟨rfl, hoth (by decide)⟩
            · have e1 : ev (.tmp 62) = av := he1 6 62 (by omega) rfl (by decide)
              have e2 : ev (.tmp 64) = .int .i64 (2 * (e : Int)) := he1 8 64 (by omega) rfl (by decide)
              have hen : ∀ args w, (callFunc 45 args).run Tryz.prog w = .ok (.enter 45 args) w := enters_of Tryz.func45 (by kernel_rfl) rfl
              have hrun5 : ∀ o : Oper, o.op = .call { callee := .value (.func 45), args := #[.tmp 62, .tmp 64], argTypes := #[53, 3] } → (execOp ev o).run Tryz.prog wr.drew = .ok (.enter 45 #[av, .int .i64 (2 * (e : Int))]) wr.drew := fun o ho => by
                simp [execOp, ho, go_sem, e1, e2, hef, hen]
              unfold AnyOrd.Gives
              rw [hrun5 _ rfl]
              refine HF.out.mono fun e V' hq => ⟨_, hq.1, rfl, ?_⟩
              rw [hq.2]
              exact hoth (by decide)
            · have e1 : ev (.tmp 58) = .slice (some ⟨w.heap.size + 1, 0, none⟩) n n := he1 2 58 (by omega) rfl (by decide)
              have e2 : ev (.tmp 65) = .int .i64 (ua : Int) := he1 9 65 (by omega) rfl (by decide)
              exact AnyOrd.gives_value (v := .pointer (some ⟨w.heap.size + 1, ua, none⟩)) (w' := wr.drew) (by simp [execOp, go_sem, e1, e2, iu0, iu1]) ⟨rfl, hoth (by decide)⟩
            · have e1 : ev (.tmp 66) = .pointer (some ⟨w.heap.size + 1, ua, none⟩) := he1 10 66 (by omega) rfl (by decide)
              exact AnyOrd.gives_value (v := .int .i64 pu) (w' := wr.drew) (by simp [execOp, go_sem, e1, cu']) ⟨rfl, hoth (by decide)⟩
            · have e1 : ev (.tmp 7) = .slice (some ⟨w.heap.size + 1, 0, none⟩) n n := he2 7 (by kernel_rfl)
              exact AnyOrd.gives_value (w' := wr.drew) (by simp [execOp, go_sem, e1]; rfl) ⟨rfl, hoth (by decide)⟩
            · have e1 : ev (.tmp 0) = .pointer (some ⟨p, 0, none⟩) := he2 0 (by kernel_rfl)
              exact AnyOrd.gives_value (w' := wr.drew) (by simp [execOp, go_sem, e1]; rfl) ⟨rfl, hoth (by decide)⟩
            · have e1 : ev (.tmp 69) = .pointer (some ⟨p, 0, none⟩) := he1 13 69 (by omega) rfl (by decide)
              exact AnyOrd.gives_value (v := .pointer (some ⟨p, 0, none⟩)) (w' := wr.drew) (by simp [execOp, go_sem, e1]) ⟨rfl, hoth (by decide)⟩
            · have e1 : ev (.tmp 70) = .pointer (some ⟨p, 0, none⟩) := he1 14 70 (by omega) rfl (by decide)
              exact AnyOrd.gives_value (v := .pointer (some ⟨p, 0, none⟩)) (w' := wr.drew) (by simp [execOp, go_sem, e1]) ⟨rfl, hoth (by decide)⟩
            · have e1 : ev (.tmp 71) = .pointer (some ⟨p, 0, none⟩) := he1 15 71 (by omega) rfl (by decide)
              exact AnyOrd.gives_value (v := av) (w' := wr.drew) (by simp [execOp, go_sem, e1, ca']) ⟨rfl, hoth (by decide)⟩
            · have e1 : ev (.tmp 13) = .int .i64 (e : Int) := he2 13 (by kernel_rfl)
              exact AnyOrd.gives_value (w' := wr.drew) (by simp [execOp, go_sem, e1]; rfl) ⟨rfl, hoth (by decide)⟩
            · have e1 : ev (.tmp 73) = .int .i64 (e : Int) := he1 17 73 (by omega) rfl (by decide)
              exact AnyOrd.gives_value (v := .int .i64 (2 * (e : Int))) (w' := wr.drew) (by simp [execOp, go_sem, e1, hec, h2e]) ⟨rfl, hoth (by decide)⟩
            · have e1 : ev (.tmp 72) = av := he1 16 72 (by omega) rfl (by decide)
              have e2 : ev (.tmp 74) = .int .i64 (2 * (e : Int)) := he1 18 74 (by omega) rfl (by decide)
              have hen : ∀ args w, (callFunc 46 args).run Tryz.prog w = .ok (.enter 46 args) w := enters_of Tryz.func46 (by kernel_rfl) rfl
              have hrun5 : ∀ o : Oper, o.op = .call { callee := .value (.func 46), args := #[.tmp 72, .tmp 74], argTypes := #[53, 3] } → (execOp ev o).run Tryz.prog wr.drew = .ok (.enter 46 #[av, .int .i64 (2 * (e : Int))]) wr.drew := fun o ho => by
                simp [execOp, ho, go_sem, e1, e2, hef, hen]
              unfold AnyOrd.Gives
              rw [hrun5 _ rfl]
              refine HT.out.mono fun e V' hq => ⟨_, hq.1, rfl, ?_⟩
              rw [hq.2]
              exact hoth (by decide)
            · have e1 : ev (.tmp 68) = .slice (some ⟨w.heap.size + 1, 0, none⟩) n n := he1 12 68 (by omega) rfl (by decide)
              have e2 : ev (.tmp 75) = .int .i64 (vb : Int) := he1 19 75 (by omega) rfl (by decide)
              exact AnyOrd.gives_value (v := .pointer (some ⟨w.heap.size + 1, vb, none⟩)) (w' := wr.drew) (by simp [execOp, go_sem, e1, e2, iv0, iv1]) ⟨rfl, hoth (by decide)⟩
            · have e1 : ev (.tmp 76) = .pointer (some ⟨w.heap.size + 1, vb, none⟩) := he1 20 76 (by omega) rfl (by decide)
              exact AnyOrd.gives_value (v := .int .i64 pv) (w' := wr.drew) (by simp [execOp, go_sem, e1, cv']) ⟨rfl, hoth (by decide)⟩
            · have e1 : ev (.tmp 67) = .int .i64 pu := he1 11 67 (by omega) rfl (by decide)
              have e2 : ev (.tmp 77) = .int .i64 pv := he1 21 77 (by omega) rfl (by decide)
              exact AnyOrd.gives_value (v := .agg #[.int .i64 pu, .int .i64 pv]) (w' := wr.drew) (by simp [execOp, go_sem, e1, e2]) ⟨rfl, hoth (by decide)⟩
            · have e1 : ev (.tmp 56) = .slice (some ⟨ge, 0, none⟩) E.length E.length := he1 0 56 (by omega) rfl (by decide)
              have e2 : ev (.tmp 57) = .int .i64 (i : Int) := he1 1 57 (by omega) rfl (by decide)
              exact AnyOrd.gives_value (v := .pointer (some ⟨ge, i * 2, none⟩)) (w' := wr.drew) (by simp [execOp, go_sem, e1, e2, k2, hlti]) ⟨rfl, hoth (by decide)⟩
            · have e1 : ev (.tmp 79) = .pointer (some ⟨ge, i * 2, none⟩) := he1 23 79 (by omega) rfl (by decide)
              have e2 : ev (.tmp 78) = .agg #[.int .i64 pu, .int .i64 pv] := he1 22 78 (by omega) rfl (by decide)
              refine AnyOrd.gives_skip (w' := (wr.drew.setCell ⟨ge, i * 2, none⟩ (.int .i64 pu)).setCell ⟨ge, i * 2 + 1, none⟩ (.int .i64 pv)) (by simp [execOp, go_sem, e1, e2, z0, z1, f0, f1]) ⟨rfl, ?_⟩
              rw [if_pos (show AnyOrd.updB Ls 24 24 = true from rfl)]
          · intro Ls V hall hC
            rw [hall 24 (by decide), if_pos rfl] at hC
            generalize hfr : AnyOrd.canon _ _ _ _ = fr
            have hfr2 : fr = { tmps := #[.pointer (some ⟨p, 0, none⟩), .int .i64 (kk : Int), .slice vo vs.length vc, undef, undef, undef, .pointer (some ⟨w.heap.size, 0, none⟩), .slice (some ⟨w.heap.size + 1, 0, none⟩) n n, u8, u9, .slice (some ⟨be, oe, none⟩) E.length ec, .slice (some ⟨ge, 0, none⟩) E.length E.length, .int .i64 (i : Int), .int .i64 (e : Int), .pointer (some ⟨p, 0, none⟩), .pointer (some ⟨p, 0, none⟩), .pointer (some ⟨p, 0, none⟩), av, .int .i64 (n : Int), .slice (some ⟨w.heap.size + 1, 0, none⟩) n n, .slice vo vs.length vc, .int .i64 (vs.length : Int), .int .i64 (vs.length : Int), .bool false, u24, u25, u26, u27, u28, u29, u30, u31, .pointer (some ⟨p, 0, none⟩), .pointer (some ⟨p, 0, none⟩), .pointer (some ⟨p, 1, none⟩), .map (some mb), .pointer (some ⟨p, 0, none⟩), .pointer (some ⟨p, 0, none⟩), .pointer (some ⟨p, 2, none⟩), .slice (some ⟨bo, oo, none⟩) K.length lc, .int .i64 (kk : Int), .pointer (some ⟨bo, oo + kk, none⟩), .int .i64 (t : Int), .slice (some ⟨gL, 0, none⟩) L.length L.length, .func (.func 63) #[] #[.pointer (some ⟨Bs, 0, none⟩)], .slice (some ⟨be, oe, none⟩) E.length ec, .slice (some ⟨be, oe, none⟩) E.length ec, .int .i64 (E.length : Int), .slice (some ⟨ge, 0, none⟩) E.length E.length, .slice (some ⟨be, oe, none⟩) E.length ec, .int .i64 (E.length : Int), .int .i64 (i : Int), .bool true, .int .i64 (i : Int), .pointer (some ⟨be, oe + i, none⟩), .int .i64 (e : Int), .slice (some ⟨ge, 0, none⟩) E.length E.length, .int .i64 (i : Int), .slice (some ⟨w.heap.size + 1, 0, none⟩) n n, .pointer (some ⟨p, 0, none⟩), .pointer (some ⟨p, 0, none⟩), .pointer (some ⟨p, 0, none⟩), av, .int .i64 (e : Int), .int .i64 (2 * (e : Int)), .int .i64 (ua : Int), .pointer (some ⟨w.heap.size + 1, ua, none⟩), .int .i64 pu, .slice (some ⟨w.heap.size + 1, 0, none⟩) n n, .pointer (some ⟨p, 0, none⟩), .pointer (some ⟨p, 0, none⟩), .pointer (some ⟨p, 0, none⟩), av, .int .i64 (e : Int), .int .i64 (2 * (e : Int)), .int .i64 (vb : Int), .pointer (some ⟨w.heap.size + 1, vb, none⟩), .int .i64 pv, .agg #[.int .i64 pu, .int .i64 pv], .pointer (some ⟨ge, i * 2, none⟩), u80, undef, undef, undef, undef], defers := [] } := by rw [← hfr]; kernel_rfl
            subst hfr2
            clear hfr hall
            have HEND : Hid (EdgesBlk V ge (Bl.fillE R (i + 1)) ∧ IntsBlk V (w.heap.size + 1) l ∧ V.heap[w.heap.size]? = some (.cells #[.int .i64 0, .slice none 0 0] 24 (0, 0)) ∧ Below w4.heap.size w4 V) := by
              subst hC
              refine ⟨?_, ?_, ?_, ?_⟩
              · rw [← HFS.out]
                exact EdgesBlk.set (w := wr.drew) HEB.out i pu pv
              · show _ = _
                rw [heap_setCell_other _ ⟨ge, i * 2 + 1, none⟩ (w.heap.size + 1) _ (by simp; omega), heap_setCell_other _ ⟨ge, i * 2, none⟩ (w.heap.size + 1) _ (by simp; omega)]
                exact HI.out
              · rw [heap_setCell_other _ ⟨ge, i * 2 + 1, none⟩ w.heap.size _ (by simp; omega), heap_setCell_other _ ⟨ge, i * 2, none⟩ w.heap.size _ (by simp; omega)]
                exact HG.out
              · have hg := HGE.out
                exact (HB5.out.drew.setCell (p := ⟨ge, i * 2, none⟩) (by show _ ≤ ge; omega) _).setCell (p := ⟨ge, i * 2 + 1, none⟩) (by show _ ≤ ge; omega) _
            clear hC ca' cu' cv' z0' z1' f0' f1' z0 z1 f0 f1 ca cu cv
            go_wp2
            go_roundw
            case rel => exact ⟨i + 1, by omega, by go_num, HEND.out.1, HEND.out.2.1, HEND.out.2.2.1, HEND.out.2.2.2⟩
            case measure => simp [intOf]; omega
        · have hlti : ¬ (i : Int) < (E.length : Int) := by omega
          obtain rfl : i = E.length := by omega
          have hEF : EdgesBlk wr ge R := by
            have := hEb
            rw [← hRl, Bl.fillE_all] at this
            exact this
          obtain ⟨g0, g1, gf⟩ := pair_cells hG
          have HEND : Hid (GrPost vs.length (Bl.bkTo es (Bl.numB (Bl.mB es s)) vs kk es.length) w (.returned (.agg #[.int .i64 (vs.length : Int), .slice (some ⟨ge, 0, none⟩) E.length E.length])) ((wr.setCell ⟨w.heap.size, 0, none⟩ (.int .i64 (vs.length : Int))).setCell ⟨w.heap.size, 1, none⟩ (.slice (some ⟨ge, 0, none⟩) E.length E.length))) := by
            rw [HBK.out, HR.out]
            refine ⟨ge, by rw [hRl], ?_, by omega, ?_⟩
            · show _ = _
              rw [heap_setCell_other _ ⟨w.heap.size, 1, none⟩ ge _ (by simp; omega), heap_setCell_other _ ⟨w.heap.size, 0, none⟩ ge _ (by simp; omega)]
              exact hEF
            · exact (hbw.setCell (p := ⟨w.heap.size, 0, none⟩) (Nat.le_refl _) _).setCell (p := ⟨w.heap.size, 1, none⟩) (Nat.le_refl _) _
          clear hEb hI hG hb5 hbw hEF
          go_wp2
          refine bodyPost_ret (v := .agg #[.int .i64 (vs.length : Int), .slice (some ⟨ge, 0, none⟩) E.length E.length]) (by simp [results, Tryz.results28, go_sem, g0, g1]) rfl ?_
          exact HEND.out
end
end Go.Proofs.YtalfpbalekbinaaGreat
