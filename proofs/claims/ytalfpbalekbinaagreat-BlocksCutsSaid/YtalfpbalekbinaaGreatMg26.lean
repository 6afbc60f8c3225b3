import Derived.Test.YtalfpbalekbinaaGreatMg25
/-
  Blocks, pure: a block as a graph of its own.
-/
namespace Go.Proofs.YtalfpbalekbinaaGreat
open Go.RowKit
namespace Bl
open Df Lo

section
variable {n : Nat} {es : List (Int × Int)} {f : Nat → Nat}

/-- An edge by the places of its ends. -/
def nmE (vs : List Int) (p : Int × Int) : Int × Int := (place vs p.1, place vs p.2)
/-- The edges below j that are in block k, by the places of their ends. -/
def bkTo (es : List (Int × Int)) (f : Nat → Nat) (vs : List Int) (k : Nat) (j : Nat) : List (Int × Int) := ((List.range j).filter fun e => decide (f e = k)).map fun e => nmE vs (es.getD e (0, 0))
theorem bkTo_yes {vs : List Int} {k j : Nat} {p : Int × Int} (hp : es[j]? = some p) (h : f j = k) : bkTo es f vs k (j + 1) = bkTo es f vs k j ++ [nmE vs p] := by
  unfold bkTo
  rw [List.range_succ, List.filter_append, List.map_append, List.filter_cons_of_pos (by simpa using h)]
  simp [List.getD_eq_getElem?_getD, hp]
theorem bkTo_no {vs : List Int} {k j : Nat} (h : f j ≠ k) : bkTo es f vs k (j + 1) = bkTo es f vs k j := by
  unfold bkTo
  rw [List.range_succ, List.filter_append, List.map_append, List.filter_cons_of_neg (by simpa using h)]
  simp
theorem bkTo_length (vs : List Int) (k j : Nat) : (bkTo es f vs k j).length ≤ j := by
  unfold bkTo
  rw [List.length_map]
  exact Nat.le_trans (List.length_filter_le _ _) (by simp)
theorem bkTo_congr {f' : Nat → Nat} {vs : List Int} {k j : Nat} (h : ∀ e, e < j → f e = f' e) : bkTo es f vs k j = bkTo es f' vs k j := by
  unfold bkTo
  congr 1
  refine List.filter_congr fun e he => ?_
  rw [h e (List.mem_range.1 he)]

theorem vsTo_nodup (k : Int) (j : Nat) : (vsTo es f k j).Nodup := by
  unfold vsTo
  refine List.Pairwise.map _ (fun a b h => ?_) (List.Pairwise.filter _ List.nodup_range)
  omega
theorem mem_vsTo {k j : Nat} {x : Int} : x ∈ vsTo es f (k : Int) j ↔ ∃ v : Nat, x = (v : Int) ∧ v < j ∧ hitB es f (v : Int) k es.length = true := by
  unfold vsTo
  rw [List.mem_map]
  constructor
  · rintro ⟨v, hv, rfl⟩
    rw [List.mem_filter, List.mem_range] at hv
    exact ⟨v, rfl, hv.1, by simpa using hv.2⟩
  · rintro ⟨v, rfl, h1, h2⟩
    exact ⟨v, List.mem_filter.2 ⟨List.mem_range.2 h1, by simpa using h2⟩, rfl⟩
open Classical in
/-- The ends of a block's edges are its vertices. -/
theorem ends_in (hv : Si.Val n es) {k e : Nat} {p : Int × Int} (hp : es[e]? = some p) (hf : f e = k) : p.1 ∈ vsTo es f (k : Int) n ∧ p.2 ∈ vsTo es f (k : Int) n := by
  have hel := (List.getElem?_eq_some_iff.1 hp).1
  have hok := hv.each e p hp
  unfold Si.ok at hok
  constructor
  · exact mem_vsTo.2 ⟨p.1.toNat, by omega, by omega, by unfold hitB; exact decide_eq_true ⟨e, p, hel, hp, hf, .inl (by omega)⟩⟩
  · exact mem_vsTo.2 ⟨p.2.toNat, by omega, by omega, by unfold hitB; exact decide_eq_true ⟨e, p, hel, hp, hf, .inr (by omega)⟩⟩
theorem place_mem {l : List Int} {x : Int} (hx : x ∈ l) : ∃ i : Nat, l[i]? = some x ∧ place l x = (i : Int) := by
  induction l with
  | nil => cases hx
  | cons y l ih =>
    by_cases e : y = x
    · exact ⟨0, by simp [e], place_at (i := 0) (by simp [e]) (fun j hj => by omega)⟩
    · rcases List.mem_cons.1 hx with h | h
      · exact absurd h.symm e
      · obtain ⟨i, h1, h2⟩ := ih h
        refine ⟨i + 1, by simpa using h1, ?_⟩
        rw [place, if_neg e]
        rw [h2]
        split <;> omega
theorem place_of {l : List Int} (hn : l.Nodup) {i : Nat} {x : Int} (h : l[i]? = some x) : place l x = (i : Int) :=
  place_at h fun j hj he => by
    obtain ⟨hi, e1⟩ := List.getElem?_eq_some_iff.1 h
    obtain ⟨hj', e2⟩ := List.getElem?_eq_some_iff.1 he
    exact List.pairwise_iff_getElem.1 hn j i hj' hi hj (by rw [e1, e2])

/-- The first j of vs have their places. -/
def Names (n : Nat) (vs : List Int) (j : Nat) (l : List Int) : Prop := l.length = n ∧ ∀ (i : Nat) (x : Int), i < j → vs[i]? = some x → l[x.toNat]? = some (i : Int)
theorem Names.put {vs : List Int} (hn : vs.Nodup) (h0 : ∀ x ∈ vs, 0 ≤ x ∧ x < (n : Int)) {j : Nat} {l : List Int} (h : Names n vs j l) {x : Int} (hx : vs[j]? = some x) : Names n vs (j + 1) (l.set x.toNat (j : Int)) := by
  have hx0 := h0 x (List.mem_of_getElem? hx)
  refine ⟨by rw [List.length_set]; exact h.1, fun i y hi hy => ?_⟩
  by_cases e : i = j
  · subst e
    rw [hx] at hy
    cases hy
    rw [List.getElem?_set_self (by rw [h.1]; omega)]
  · have hy0 := h0 y (List.mem_of_getElem? hy)
    rw [List.getElem?_set_ne (fun e2 => ?_)]
    · exact h.2 i y (by omega) hy
    · have hxy : x = y := by omega
      have h1 := place_of hn hx
      have h2 := place_of hn hy
      rw [hxy, h2] at h1
      omega
theorem Names.at {vs : List Int} {l : List Int} (h : Names n vs vs.length l) {x : Int} (hx : x ∈ vs) : l[x.toNat]? = some (place vs x) := by
  obtain ⟨i, h1, h2⟩ := place_mem hx
  rw [h2]
  exact h.2 i x (List.getElem?_eq_some_iff.1 h1).1 h1

/-- The first i of l, then noughts. -/
def fillE (l : List (Int × Int)) (i : Nat) : List (Int × Int) := l.take i ++ List.replicate (l.length - i) (0, 0)
theorem fillE_length {l : List (Int × Int)} {i : Nat} (h : i ≤ l.length) : (fillE l i).length = l.length := by
  simp [fillE]
  omega
theorem fillE_zero (l : List (Int × Int)) : fillE l 0 = List.replicate l.length (0, 0) := by simp [fillE]
theorem fillE_all (l : List (Int × Int)) : fillE l l.length = l := by simp [fillE]
theorem fillE_at {l : List (Int × Int)} {i : Nat} (h : i < l.length) : (fillE l i)[i]? = some (0, 0) := by
  unfold fillE
  rw [List.getElem?_append_right (by simp; omega), List.getElem?_replicate, if_pos (by simp; omega)]
theorem fillE_set {l : List (Int × Int)} {i : Nat} {p : Int × Int} (h : l[i]? = some p) : (fillE l i).set i p = fillE l (i + 1) := by
  obtain ⟨hi, e⟩ := List.getElem?_eq_some_iff.1 h
  have hl : (l.take i).length = i := by simp; omega
  unfold fillE
  rw [List.set_append_right _ _ (by omega), hl, Nat.sub_self, List.take_add_one, h, List.append_assoc]
  congr 1
  obtain ⟨m, hm⟩ : ∃ m, l.length - i = m + 1 := ⟨l.length - i - 1, by omega⟩
  rw [hm, show l.length - (i + 1) = m by omega, List.replicate_succ]
  rfl

/-- A block's edges, sorted. -/
theorem sorted_block {s : St} {F : List (List Nat)} {K : List Nat} (p : Parted es s F) (hK : K = (List.range es.length).filter fun e => decide (mB es s e = e)) {k t : Nat} {L : List Nat} (hk : K[k]? = some t) (hL : L ∈ F) (ht : mn L = t) :
    ((L.map (Nat.cast : Nat → Int)).mergeSort fun x y => decide (x ≤ y)) = ((List.range es.length).filter fun e => decide (numB (mB es s) e = k)).map Nat.cast := by
  have hnd := (p.one L hL).2.1
  obtain ⟨K', hK', e, _⟩ := sorted_keys (F := L.map fun x => [x]) hnd (fun k => by
    constructor
    · intro h
      exact ⟨[k], List.mem_map.2 ⟨k, h, rfl⟩, rfl⟩
    · rintro ⟨M, hM, rfl⟩
      obtain ⟨x, hx, rfl⟩ := List.mem_map.1 hM
      exact hx)
  rw [e]
  congr 1
  refine rising_ext hK'.1 (range_rising _ _) fun x => ?_
  rw [hK'.2, List.mem_filter, List.mem_range, decide_eq_true_iff]
  have htL : t ∈ L := by rw [← ht]; exact mn_mem (p.one L hL).1
  have hkt : numB (mB es s) t = k := (p.num hK hL (by rw [ht]; exact hk) htL).symm
  constructor
  · rintro ⟨M, hM, rfl⟩
    obtain ⟨y, hy, rfl⟩ := List.mem_map.1 hM
    exact ⟨p.lt hL hy, (p.num hK hL (by rw [ht]; exact hk) hy).symm⟩
  · rintro ⟨hx, hxk⟩
    have h1 : mB es s x = mB es s t := (numB_iff hx (p.lt hL htL)).1 (by rw [hxk, hkt])
    have h2 : x ∈ L := (p.mem hL htL x).2 ⟨hx, (mB_iff (p.lt hL htL) hx).1 h1⟩
    exact ⟨[x], List.mem_map.2 ⟨x, h2, rfl⟩, rfl⟩
end
end Bl

/-- The edges l fill block g. -/
def EdgesBlk (w : World) (g : Nat) (l : List (Int × Int)) : Prop := w.heap[g]? = some (.cells (flatE l).toArray 46 (0, 0))
section
variable {w w' : World} {g : Nat} {l : List (Int × Int)}
theorem EdgesBlk.lt (h : EdgesBlk w g l) : g < w.heap.size := lt_of_block h
theorem EdgesBlk.later (h : EdgesBlk w g l) (hb : Below w.heap.size w w') : EdgesBlk w' g l := (hb.block g h.lt).trans h
theorem EdgesBlk.own (h : EdgesBlk w g l) {B : Nat} (hB : B ≤ g) (hm : l.length ≤ maxLen) : OwnE w B (.slice (some ⟨g, 0, none⟩) l.length l.length) l :=
  ⟨flatE_length l, .inr ⟨g, l.length, (flatE l).toArray, rfl, hB, h, Nat.le_refl _, hm, by simp [flatE_length], by
    rw [List.toList_toArray]
    exact List.take_of_length_le (by rw [flatE_length]; exact Nat.le_refl _)⟩⟩
theorem EdgesBlk.cells (h : EdgesBlk w g l) {i : Nat} {p : Int × Int} (hp : l[i]? = some p) : w.cell? ⟨g, i * 2, none⟩ = some (.int .i64 p.1) ∧ w.cell? ⟨g, i * 2 + 1, none⟩ = some (.int .i64 p.2) := by
  obtain ⟨h0, h1⟩ := flatE_at l i p hp
  unfold EdgesBlk at h
  simp [World.cell?, h, h0, h1]
theorem EdgesBlk.free (h : EdgesBlk w g l) (i : Nat) : w.frozen? ⟨g, i, none⟩ = false := by
  unfold EdgesBlk at h
  simp [World.frozen?, h]
theorem flatE_set2 : ∀ (ps : List (Int × Int)) (a : Nat) (q : Int × Int), flatE (ps.set a q) = ((flatE ps).set (a * 2) (.int .i64 q.1)).set (a * 2 + 1) (.int .i64 q.2)
  | [], a, q => by simp [flatE]
  | p :: ps, 0, q => by simp [flatE]
  | p :: ps, a + 1, q => by
    have ih := flatE_set2 ps a q
    have e : (a + 1) * 2 = a * 2 + 1 + 1 := by omega
    rw [e]
    simpa [flatE] using ih
theorem EdgesBlk.set (h : EdgesBlk w g l) (i : Nat) (x y : Int) : EdgesBlk ((w.setCell ⟨g, i * 2, none⟩ (.int .i64 x)).setCell ⟨g, i * 2 + 1, none⟩ (.int .i64 y)) g (l.set i (x, y)) := by
  unfold EdgesBlk
  have h1 := heap_setCell_same w g (i * 2) _ _ (.int .i64 x) h
  have h2 := heap_setCell_same _ g (i * 2 + 1) _ _ (.int .i64 y) h1
  rw [h2, flatE_set2]
  simp
theorem edges_of_row {B n : Nat} (h : w.ownsRow B 46 2 (.slice (some ⟨g, 0, none⟩) n n) n (flatE l)) : EdgesBlk w g l := by
  rcases h.2 with ⟨h, _⟩ | ⟨g', cap, cur, e, _, hh, _, _, hs, ht⟩
  · cases h
  · cases e
    rw [List.take_of_length_le (by simp; omega)] at ht
    unfold EdgesBlk
    rw [hh, ← ht]
end
end Go.Proofs.YtalfpbalekbinaaGreat

/-
  cuts, vertices, bridges of a graph that has fallen into its blocks.
-/
namespace Go.Proofs.YtalfpbalekbinaaGreat
open Go.RowKit Go.Sort

/-- A list of one's own is answered. -/
def ListPost (l : List Int) (w : World) (e : Ending) (w' : World) : Prop := ∃ v, e = .returned v ∧ OwnZ w' w.heap.size v l ∧ Below w.heap.size w w'

section
variable {w : World} {p : Nat} {av : Value} {mb : Nat} {lo : Option Addr} {lc : Nat} {go : Nat} {n : Nat} {es : List (Int × Int)} {s : Df.St} {F : List (List Nat)} {D : DataW Value} {K : List Nat}

set_option maxRecDepth 100000 in
set_option maxHeartbeats 16000000 in
theorem cuts_any9 (h : PtIn w p av mb lo lc (.slice (some ⟨go, 0, none⟩) es.length es.length) n es s F D K) (hio : IntsBlk w go (Bl.nums es.length (Bl.numB (Bl.mB es s)))) :
    Calls Tryz.prog 18 #[.pointer (some ⟨p, 0, none⟩)] w (ListPost (Bl.cutsTo es (Bl.numB (Bl.mB es s)) (Bl.cntB (Bl.mB es s) es.length) n) w) := by
  have hval := h.val
  have hhi := hval.hi
  obtain ⟨c0, -, -, -, -⟩ := h.cells
  have HN := Nu.hid (aN_any av n es w h.adj)
  have HIC : Hid (∀ W v, Below w.heap.size w W → v < n → Calls Tryz.prog 35 #[.pointer (some ⟨p, 0, none⟩), .int .i64 (v : Nat)] W fun e w' => e = .returned (.bool (decide (1 < Bl.inB es (Bl.numB (Bl.mB es s)) (v : Int) (Bl.cntB (Bl.mB es s) es.length)))) ∧ Below W.heap.size W w') := fun W v hW hv =>
    isCut_any9 _ v hv (h.later hW) (hio.later hW) _ (by rw [decide_eq_true_iff]; exact (Bl.cut_iff hval (fun e he => Bl.numB_lt he) hv).symm)
  clear h hio
  go_enter Tryz.func18, Tryz.ntmps18
  go_wp2_with (go_at_call 34; refine HN.out.mono ?_; rintro e w1 ⟨rfl, hw1⟩; obtain rfl := hw1.symm)
  go_loopw [3, 10] (fun lv cv wr => ∃ k : Nat, k ≤ n ∧ cv = .int .i64 (k : Int) ∧ OwnZ wr w.heap.size lv (Bl.cutsTo es (Bl.numB (Bl.mB es s)) (Bl.cntB (Bl.mB es s) es.length) k) ∧ Below w.heap.size w wr) (fun _ cv _ => n - (intOf cv).toNat)
  case atStart => exact ⟨0, Nat.zero_le _, rfl, .nil _ _, Below.refl _ _⟩
  case round =>
    clear c0
    obtain ⟨k, hk, rfl, hO, hb⟩ := hrel
    have HO := Nu.hid hO
    have HB := Nu.hid hb
    obtain ⟨vo, vc, hv3, -, -⟩ := hO.form
    have hlen := Bl.cutsTo_length es (Bl.numB (Bl.mB es s)) (Bl.cntB (Bl.mB es s) es.length) k
    subst hv3
    by_cases hkn : k < n
    · have hlti : (k : Int) < (n : Int) := by omega
      have HI := Nu.hid (HIC.out wr k hb hkn)
      by_cases hc : 1 < Bl.inB es (Bl.numB (Bl.mB es s)) (k : Int) (Bl.cntB (Bl.mB es s) es.length)
      · rw [decide_eq_true hc] at HI
        have HY := Nu.hid (Bl.cutsTo_yes hc)
        clear hO hb hc
        obtain ⟨cl, hcl⟩ : ∃ cl, Bl.cutsTo es (Bl.numB (Bl.mB es s)) (Bl.cntB (Bl.mB es s) es.length) k = cl := ⟨_, rfl⟩
        rw [hcl] at HO HY hlen ⊢
        clear hcl
        go_wp2_with (first | (go_at_call 35; refine HI.out.mono ?_; rintro e w1 ⟨rfl, hb1⟩; have HO1 := Nu.hid (HO.out.later hb1); have HB1 := Nu.hid (HB.out.trans (hb1.mono HB.out.size)); clear hb1) | (at_builtin; refine wpList_push rfl _ _ rfl w1 w.heap.size (.slice vo cl.length vc) cl (k : Int) HO1.out HB1.out.size (by omega) rfl rfl ?_; refine Hid.out ?_))
        refine Nu.hid ?_
        intro v' w5 ho5 hg5 hat5 hb5
        have HO5 := Nu.hid ho5
        have HB5 := Nu.hid (HB1.out.trans hb5)
        clear ho5 hg5 hat5 hb5
        go_wp2
        go_roundw
        case rel => exact ⟨k + 1, by omega, by go_num, by rw [HY.out]; exact HO5.out, HB5.out⟩
        case measure => simp [intOf]; omega
      · rw [decide_eq_false hc] at HI
        have HY := Nu.hid (Bl.cutsTo_no hc)
        clear hO hb hc
        go_wp2_with (go_at_call 35; refine HI.out.mono ?_; rintro e w1 ⟨rfl, hb1⟩; have HO1 := Nu.hid (HO.out.later hb1); have HB1 := Nu.hid (HB.out.trans (hb1.mono HB.out.size)); clear hb1)
        go_roundw
        case rel => exact ⟨k + 1, by omega, by go_num, by rw [HY.out]; exact HO1.out, HB1.out⟩
        case measure => simp [intOf]; omega
    · have hlti : ¬ (k : Int) < (n : Int) := by omega
      obtain rfl : k = n := by omega
      clear hO hb
      go_wp2
      go_ret
      exact ⟨_, rfl, HO.out, HB.out⟩

set_option maxRecDepth 100000 in
set_option maxHeartbeats 16000000 in
theorem vertices_any9 (kk : Nat) (h : PtIn w p av mb lo lc (.slice (some ⟨go, 0, none⟩) es.length es.length) n es s F D K) (hio : IntsBlk w go (Bl.nums es.length (Bl.numB (Bl.mB es s)))) :
    Calls Tryz.prog 27 #[.pointer (some ⟨p, 0, none⟩), .int .i64 (kk : Int)] w (ListPost (Bl.vsTo es (Bl.numB (Bl.mB es s)) (kk : Int) n) w) := by
  have hval := h.val
  have hhi := hval.hi
  obtain ⟨c0, -, -, -, -⟩ := h.cells
  have HN := Nu.hid (aN_any av n es w h.adj)
  have HIC : Hid (∀ W v, Below w.heap.size w W → v < n → Calls Tryz.prog 42 #[.pointer (some ⟨p, 0, none⟩), .int .i64 (v : Nat), .int .i64 (kk : Int)] W fun e w' => e = .returned (.bool (Bl.hitB es (Bl.numB (Bl.mB es s)) (v : Int) kk es.length)) ∧ Below W.heap.size W w') := fun W v hW hv =>
    isIn_any9 _ v (kk : Int) hv (h.later hW) (hio.later hW) _ (by
      rw [Bl.hit_iff hval hv]
      exact ⟨fun ⟨z, h1, h2⟩ => ⟨z, h1, by omega⟩, fun ⟨z, h1, h2⟩ => ⟨z, h1, by omega⟩⟩)
  clear h hio
  go_enter Tryz.func27, Tryz.ntmps27
  go_wp2_with (go_at_call 34; refine HN.out.mono ?_; rintro e w1 ⟨rfl, hw1⟩; obtain rfl := hw1.symm)
  go_loopw [5, 12] (fun lv cv wr => ∃ k : Nat, k ≤ n ∧ cv = .int .i64 (k : Int) ∧ OwnZ wr w.heap.size lv (Bl.vsTo es (Bl.numB (Bl.mB es s)) (kk : Int) k) ∧ Below w.heap.size w wr) (fun _ cv _ => n - (intOf cv).toNat)
  case atStart => exact ⟨0, Nat.zero_le _, rfl, .nil _ _, Below.refl _ _⟩
  case round =>
    clear c0
    obtain ⟨k, hk, rfl, hO, hb⟩ := hrel
    have HO := Nu.hid hO
    have HB := Nu.hid hb
    obtain ⟨vo, vc, hv3, -, -⟩ := hO.form
    have hlen := Bl.vsTo_length (es := es) (f := Bl.numB (Bl.mB es s)) (kk : Int) k
    subst hv3
    by_cases hkn : k < n
    · have hlti : (k : Int) < (n : Int) := by omega
      have HI := Nu.hid (HIC.out wr k hb hkn)
      cases hc : Bl.hitB es (Bl.numB (Bl.mB es s)) (k : Int) kk es.length with
      | true =>
        rw [hc] at HI
        have HY := Nu.hid (Bl.vsTo_yes hc)
        clear hO hb hc
        obtain ⟨cl, hcl⟩ : ∃ cl, Bl.vsTo es (Bl.numB (Bl.mB es s)) (kk : Int) k = cl := ⟨_, rfl⟩
        rw [hcl] at HO HY hlen ⊢
        clear hcl
        go_wp2_with (first | (go_at_call 42; refine HI.out.mono ?_; rintro e w1 ⟨rfl, hb1⟩; have HO1 := Nu.hid (HO.out.later hb1); have HB1 := Nu.hid (HB.out.trans (hb1.mono HB.out.size)); clear hb1) | (at_builtin; refine wpList_push rfl _ _ rfl w1 w.heap.size (.slice vo cl.length vc) cl (k : Int) HO1.out HB1.out.size (by omega) rfl rfl ?_; refine Hid.out ?_))
        refine Nu.hid ?_
        intro v' w5 ho5 hg5 hat5 hb5
        have HO5 := Nu.hid ho5
        have HB5 := Nu.hid (HB1.out.trans hb5)
        clear ho5 hg5 hat5 hb5
        go_wp2
        go_roundw
        case rel => exact ⟨k + 1, by omega, by go_num, by rw [HY.out]; exact HO5.out, HB5.out⟩
        case measure => simp [intOf]; omega
      | false =>
        rw [hc] at HI
        have HY := Nu.hid (Bl.vsTo_no hc)
        clear hO hb hc
        go_wp2_with (go_at_call 42; refine HI.out.mono ?_; rintro e w1 ⟨rfl, hb1⟩; have HO1 := Nu.hid (HO.out.later hb1); have HB1 := Nu.hid (HB.out.trans (hb1.mono HB.out.size)); clear hb1)
        go_roundw
        case rel => exact ⟨k + 1, by omega, by go_num, by rw [HY.out]; exact HO1.out, HB1.out⟩
        case measure => simp [intOf]; omega
    · have hlti : ¬ (k : Int) < (n : Int) := by omega
      obtain rfl : k = n := by omega
      clear hO hb
      go_wp2
      go_ret
      exact ⟨_, rfl, HO.out, HB.out⟩
end
end Go.Proofs.YtalfpbalekbinaaGreat
