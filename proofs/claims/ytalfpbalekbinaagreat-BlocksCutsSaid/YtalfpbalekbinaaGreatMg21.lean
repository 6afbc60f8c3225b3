import Derived.Test.YtalfpbalekbinaaGreatMg13
import Derived.Test.YtalfpbalekbinaaGreatMg14
import Derived.Test.YtalfpbalekbinaaGreatMg20
import Derived.Test.YtalfpbalekbinaaGreatMgS2
import Derived.Test.YtalfpbalekbinaaGreatMg10
import Derived.Test.YtalfpbalekbinaaGreatMg01
import Derived.Test.YtalfpbalekbinaaGreatMg11
import Derived.Deep.RegionHeld3
/-
  Blocks, pure: what the finder has found, numbered by least edges.
-/
namespace Go.Proofs.YtalfpbalekbinaaGreat
namespace Bl
open Df Lo

/-- Rising lists with the same members are one. -/
theorem rising_ext : ∀ {l l' : List Nat}, l.Pairwise (fun a b => a < b) → l'.Pairwise (fun a b => a < b) → (∀ x, x ∈ l ↔ x ∈ l') → l = l'
  | [], [], _, _, _ => rfl
  | [], b :: l', _, _, h => absurd ((h b).2 List.mem_cons_self) (by simp)
  | a :: l, [], _, _, h => absurd ((h a).1 List.mem_cons_self) (by simp)
  | a :: l, b :: l', h1, h2, h => by
    obtain ⟨a1, a2⟩ := List.pairwise_cons.1 h1
    obtain ⟨b1, b2⟩ := List.pairwise_cons.1 h2
    have e : a = b := by
      rcases List.mem_cons.1 ((h a).1 List.mem_cons_self) with e | ha
      · exact e
      · rcases List.mem_cons.1 ((h b).2 List.mem_cons_self) with e | hb
        · exact e.symm
        · have := a1 b hb
          have := b1 a ha
          omega
    subst e
    rw [rising_ext a2 b2 fun x => ?_]
    constructor
    · intro hx
      rcases List.mem_cons.1 ((h x).1 (List.mem_cons_of_mem _ hx)) with e | hx'
      · have := a1 x hx
        omega
      · exact hx'
    · intro hx
      rcases List.mem_cons.1 ((h x).2 (List.mem_cons_of_mem _ hx)) with e | hx'
      · have := b1 x hx
        omega
      · exact hx'
theorem range_rising (p : Nat → Bool) (n : Nat) : ((List.range n).filter p).Pairwise (fun a b => a < b) := List.Pairwise.filter _ List.pairwise_lt_range
theorem filter_len (p : Nat → Bool) (n : Nat) : ((List.range n).filter p).length = Co.cntTo p n := by
  induction n with
  | zero => rfl
  | succ n ih =>
    rw [Co.cntTo, ← ih, List.range_succ, List.filter_append, List.length_append]
    cases hp : p n <;> simp [hp]
/-- How many stand ahead. -/
theorem filter_at (p : Nat → Bool) : ∀ (n i t : Nat), ((List.range n).filter p)[i]? = some t → i = Co.cntTo p t ∧ t < n ∧ p t = true
  | 0, i, t, h => by simp at h
  | n + 1, i, t, h => by
    rw [List.range_succ, List.filter_append] at h
    by_cases hi : i < ((List.range n).filter p).length
    · rw [List.getElem?_append_left hi] at h
      obtain ⟨a, b, c⟩ := filter_at p n i t h
      exact ⟨a, by omega, c⟩
    · rw [List.getElem?_append_right (by omega)] at h
      cases hp : p n with
      | false => simp [hp] at h
      | true =>
        rw [List.filter_cons_of_pos hp] at h
        have h0 : i - ((List.range n).filter p).length = 0 := by
          have := (List.getElem?_eq_some_iff.1 h).1
          simp at this
          omega
        rw [h0] at h
        have : n = t := by simpa using h
        subst this
        refine ⟨?_, by omega, hp⟩
        have := filter_len p n
        omega
theorem filter_get (p : Nat → Bool) {n t : Nat} (ht : t < n) (hp : p t = true) : ((List.range n).filter p)[Co.cntTo p t]? = some t := by
  have hm : t ∈ (List.range n).filter p := List.mem_filter.2 ⟨List.mem_range.2 ht, hp⟩
  obtain ⟨i, hi⟩ := List.getElem?_of_mem hm
  rw [← (filter_at p n i t hi).1]
  exact hi

section
variable {n : Nat} {es : List (Int × Int)} {s : St} {F : List (List Nat)}

open Classical in
/-- The least edge of an edge's block. -/
noncomputable def mB (es : List (Int × Int)) (s : St) (e : Nat) : Nat := mn ((List.range es.length).filter fun i => decide (hdf es s i = hdf es s e))

theorem mB_mem {e : Nat} (he : e < es.length) : mB es s e < es.length ∧ hdf es s (mB es s e) = hdf es s e := by
  classical
  have := mn_mem (l := (List.range es.length).filter fun i => decide (hdf es s i = hdf es s e)) (fun h => by
    have : e ∈ (List.range es.length).filter fun i => decide (hdf es s i = hdf es s e) := List.mem_filter.2 ⟨List.mem_range.2 he, by simp⟩
    rw [h] at this
    cases this)
  rw [List.mem_filter, List.mem_range, decide_eq_true_iff] at this
  exact this
theorem mB_le {e i : Nat} (hi : i < es.length) (h : hdf es s i = hdf es s e) : mB es s e ≤ i := by
  classical
  exact mn_le i (List.mem_filter.2 ⟨List.mem_range.2 hi, by simpa using h⟩)
theorem mB_eq {e i : Nat} (h : hdf es s i = hdf es s e) : mB es s i = mB es s e := by
  unfold mB
  rw [h]
theorem mB_iff {e i : Nat} (he : e < es.length) (hi : i < es.length) : mB es s i = mB es s e ↔ hdf es s i = hdf es s e :=
  ⟨fun h => by rw [← (mB_mem hi).2, ← (mB_mem he).2, h], mB_eq⟩
theorem mB_norm : Co.Norm es.length (mB es s) := ⟨fun _ hx => mB_le hx rfl, fun _ hx => mB_eq (mB_mem hx).2⟩
/-- A class function in its one form is this one. -/
theorem mB_one {m : Nat → Nat} (hn : Co.Norm es.length m) (h : ∀ i k, i < es.length → k < es.length → (m i = m k ↔ hdf es s i = hdf es s k)) {e : Nat} (he : e < es.length) : m e = mB es s e := by
  obtain ⟨h1, h2⟩ := mB_mem (s := s) he
  have h3 := (h _ _ h1 he).2 h2
  have h4 := hn.le _ h1
  have h5 : mB es s e ≤ m e := mB_le (hn.lt he) ((h _ _ (hn.lt he) he).1 (hn.idem e he))
  omega

/-- The blocks, each once. -/
structure Parted (es : List (Int × Int)) (s : St) (F : List (List Nat)) : Prop where
  one : ∀ L ∈ F, L ≠ [] ∧ L.Nodup ∧ ∃ c, ∀ e, e ∈ L ↔ (e < es.length ∧ hdf es s e = c)
  all : ∀ e, e < es.length → ∃ L ∈ F, e ∈ L
  apart : F.Pairwise fun B B' => ∀ e ∈ B, e ∉ B'

theorem Fi.parted (hv : Si.Val n es) (h : VF n es s) {S : List (Nat × Int)} {Y : List Nat} (f : Fi es s (fun e => En s n (ev es s e)) [] S Y F) : Parted es s F := by
  refine ⟨fun L hL => ?_, fun e he => ?_, f.apart⟩
  · obtain ⟨c, _, _, _, _, h1, h2⟩ := f.one L hL
    exact ⟨f.full hv h L hL, h1, c, h2⟩
  · have hd := hdf_of hv h he
    obtain ⟨B, hB, hc⟩ := f.all _ hd.lt.2.1 hd.lt.2.2 (en_all h (ev_lt hv h hd.lt.2.1)) (by simp)
    obtain ⟨c, _, _, _, _, _, h2⟩ := f.one B hB
    have := (h2 _).1 hc
    rw [hdf_eq hv h (.self hd.lt.2.1 hd.lt.2.2)] at this
    exact ⟨B, hB, (h2 e).2 ⟨he, this.2⟩⟩

theorem Parted.mem (p : Parted es s F) {L : List Nat} (hL : L ∈ F) {e : Nat} (he : e ∈ L) (i : Nat) : i ∈ L ↔ i < es.length ∧ hdf es s i = hdf es s e := by
  obtain ⟨_, _, c, h⟩ := p.one L hL
  rw [h i, ((h e).1 he).2]
theorem Parted.lt (p : Parted es s F) {L : List Nat} (hL : L ∈ F) {e : Nat} (he : e ∈ L) : e < es.length := ((p.mem hL he e).1 he).1
theorem Parted.mn (p : Parted es s F) {L : List Nat} (hL : L ∈ F) {e : Nat} (he : e ∈ L) : Bl.mn L = mB es s e := by
  have h1 := mn_mem (p.one L hL).1
  have h2 := (p.mem hL he _).1 h1
  have h3 := mB_mem (s := s) (p.lt hL he)
  have h4 := mn_le _ ((p.mem hL he _).2 h3)
  have h5 := mB_le h2.1 h2.2
  omega
theorem Parted.same (p : Parted es s F) {L L' : List Nat} (hL : L ∈ F) (hL' : L' ∈ F) (h : Bl.mn L = Bl.mn L') : L = L' := by
  have h1 := mn_mem (p.one L hL).1
  have h2 := mn_mem (p.one L' hL').1
  rw [← h] at h2
  obtain ⟨i, hi⟩ := List.getElem?_of_mem hL
  obtain ⟨j, hj⟩ := List.getElem?_of_mem hL'
  obtain ⟨hil, ei⟩ := List.getElem?_eq_some_iff.1 hi
  obtain ⟨hjl, ej⟩ := List.getElem?_eq_some_iff.1 hj
  rcases Nat.lt_trichotomy i j with hij | hij | hij
  · have := List.pairwise_iff_getElem.1 p.apart i j hil hjl hij (Bl.mn L) (by rw [ei]; exact h1)
    rw [ej] at this
    exact absurd h2 this
  · subst hij
    rw [← ei, ← ej]
  · have := List.pairwise_iff_getElem.1 p.apart j i hjl hil hij (Bl.mn L) (by rw [ej]; exact h2)
    rw [ei] at this
    exact absurd h1 this
theorem Parted.nodup (p : Parted es s F) : (F.map Bl.mn).Nodup := nodup_map_mn (fun L hL => (p.one L hL).1) p.apart
theorem Parted.few (p : Parted es s F) : F.length ≤ es.length := by
  have := nodup_sub (l1 := F.map Bl.mn) (l2 := List.range es.length) p.nodup (fun x hx => by
    obtain ⟨B, hB, rfl⟩ := List.mem_map.1 hx
    exact List.mem_range.2 (p.lt hB (mn_mem (p.one B hB).1)))
  simpa using this

/-- The keys are the least edges. -/
theorem Parted.keys (p : Parted es s F) {K : List Nat} (h1 : K.Pairwise (fun a b => a < b)) (h2 : ∀ k, k ∈ K ↔ ∃ L ∈ F, k = Bl.mn L) : K = (List.range es.length).filter fun e => decide (mB es s e = e) := by
  refine rising_ext h1 (range_rising _ _) fun k => ?_
  rw [h2 k, List.mem_filter, List.mem_range, decide_eq_true_iff]
  constructor
  · rintro ⟨L, hL, rfl⟩
    have hm := mn_mem (p.one L hL).1
    exact ⟨p.lt hL hm, (p.mn hL hm).symm⟩
  · rintro ⟨hk, e⟩
    obtain ⟨L, hL, hkL⟩ := p.all k hk
    exact ⟨L, hL, by rw [p.mn hL hkL, e]⟩
theorem cntB_eq (m : Nat → Nat) (k : Nat) : cntB m k = Co.cntTo (fun i => decide (m i = i)) k := rfl
/-- The number of a block, by its place among the keys. -/
theorem Parted.num (p : Parted es s F) {K : List Nat} (hK : K = (List.range es.length).filter fun e => decide (mB es s e = e)) {i : Nat} {L : List Nat} (hL : L ∈ F) (hi : K[i]? = some (Bl.mn L)) {e : Nat} (he : e ∈ L) : i = numB (mB es s) e := by
  rw [hK] at hi
  obtain ⟨h1, _, _⟩ := filter_at _ _ _ _ hi
  rw [h1, p.mn hL he]
  rfl
theorem keys_len {K : List Nat} (hK : K = (List.range es.length).filter fun e => decide (mB es s e = e)) : K.length = cntB (mB es s) es.length := by
  rw [hK, filter_len]
  rfl
theorem numB_lt {e : Nat} (he : e < es.length) : numB (mB es s) e < cntB (mB es s) es.length := by
  have h1 := (mB_mem (s := s) he).1
  have h2 := filter_get (fun i => decide (mB es s i = i)) h1 (by simpa using mB_norm.idem e he)
  have h3 := (List.getElem?_eq_some_iff.1 h2).1
  rw [filter_len] at h3
  exact h3
theorem numB_iff {e i : Nat} (he : e < es.length) (hi : i < es.length) : numB (mB es s) e = numB (mB es s) i ↔ mB es s e = mB es s i := by
  constructor
  · intro h
    have h1 := filter_get (fun i => decide (mB es s i = i)) (mB_mem (s := s) he).1 (by simpa using mB_norm.idem e he)
    have h2 := filter_get (fun i => decide (mB es s i = i)) (mB_mem (s := s) hi).1 (by simpa using mB_norm.idem i hi)
    unfold numB at h
    rw [cntB_eq, cntB_eq] at h
    rw [h, h2] at h1
    exact (Option.some.inj h1).symm
  · intro h
    unfold numB
    rw [h]
end
end Bl
end Go.Proofs.YtalfpbalekbinaaGreat

/-
  The graph fallen into its blocks, in memory; numbers: by edge, its block.
-/
namespace Go.Proofs.YtalfpbalekbinaaGreat
open Go.RowKit Go.Sort

structure PtIn (w : World) (p : Nat) (av : Value) (mb : Nat) (lo : Option Addr) (lc : Nat) (ov : Value) (n : Nat) (es : List (Int × Int)) (s : Df.St) (F : List (List Nat)) (D : DataW Value) (K : List Nat) : Prop where
  blk : w.heap[p]? = some (.cells #[av, .map (some mb), .slice lo K.length lc, ov] 56 (0, 0))
  adj : IsAdj w av n es
  val : Si.Val n es
  vf : Df.VF n es s
  mp : Mp w mb F D
  pt : Bl.Parted es s F
  key : K = (List.range es.length).filter fun e => decide (Bl.mB es s e = e)
  kat : IntsAt w lo (K.map Nat.cast)

section
variable {w w' : World} {p : Nat} {av : Value} {mb : Nat} {lo : Option Addr} {lc : Nat} {ov : Value} {n : Nat} {es : List (Int × Int)} {s : Df.St} {F : List (List Nat)} {D : DataW Value} {K : List Nat}
theorem PtIn.lt (h : PtIn w p av mb lo lc ov n es s F D K) : p < w.heap.size := lt_of_block h.blk
theorem PtIn.later (h : PtIn w p av mb lo lc ov n es s F D K) (hb : Below w.heap.size w w') : PtIn w' p av mb lo lc ov n es s F D K :=
  ⟨(hb.block p h.lt).trans h.blk, h.adj.later hb, h.val, h.vf, h.mp.later hb, h.pt, h.key, h.kat.later hb⟩
theorem PtIn.cells (h : PtIn w p av mb lo lc ov n es s F D K) : w.cell? ⟨p, 0, none⟩ = some av ∧ w.cell? ⟨p, 1, none⟩ = some (.map (some mb)) ∧ w.cell? ⟨p, 2, none⟩ = some (.slice lo K.length lc) ∧ w.cell? ⟨p, 3, none⟩ = some ov ∧ w.frozen? ⟨p, 3, none⟩ = false := by
  simp [World.cell?, World.frozen?, h.blk]
theorem PtIn.few (h : PtIn w p av mb lo lc ov n es s F D K) : K.length ≤ es.length ∧ es.length ≤ 4194304 := by
  refine ⟨?_, h.val.few⟩
  rw [h.key, Bl.filter_len]
  exact Co.cntTo_le _ _
/-- The block under a key. -/
theorem PtIn.blockAt (h : PtIn w p av mb lo lc ov n es s F D K) {k t : Nat} (hk : K[k]? = some t) : ∃ L ∈ F, Bl.mn L = t ∧ t < es.length := by
  have hm : t ∈ K := List.mem_of_getElem? hk
  rw [h.key, List.mem_filter, List.mem_range, decide_eq_true_iff] at hm
  obtain ⟨L, hL, ht⟩ := h.pt.all t hm.1
  exact ⟨L, hL, by rw [h.pt.mn hL ht, hm.2], hm.1⟩
end

namespace Bl
/-- The blocks of the first k keys are numbered. -/
def Num (m : Nat) (F : List (List Nat)) (K : List Nat) (k : Nat) (l : List Int) : Prop := l.length = m ∧ ∀ i t L e, i < k → K[i]? = some t → L ∈ F → mn L = t → e ∈ L → l[e]? = some (i : Int)
theorem Num.start (m : Nat) (F : List (List Nat)) (K : List Nat) : Num m F K 0 (List.replicate m 0) := ⟨by simp, fun i t L e hi => by omega⟩
/-- One more edge gets its number. -/
theorem Num.put {es : List (Int × Int)} {s : Df.St} {F : List (List Nat)} {K : List Nat} {k t : Nat} {l : List Int} {L : List Nat} {e : Nat} (p : Parted es s F) (hK : K.Pairwise (fun a b => a < b)) (h : Num es.length F K k l) (hk : K[k]? = some t) (hL : L ∈ F) (ht : mn L = t) (he : e ∈ L) : Num es.length F K k (l.set e (k : Int)) := by
  refine ⟨by rw [List.length_set]; exact h.1, fun i t' L' e' hi ht' hL' hm' he' => ?_⟩
  by_cases e1 : e = e'
  · exfalso
    subst e1
    have h1 := p.mn hL he
    have h2 := p.mn hL' he'
    have hik : t' = t := by omega
    subst hik
    obtain ⟨a1, a2⟩ := List.getElem?_eq_some_iff.1 ht'
    obtain ⟨b1, b2⟩ := List.getElem?_eq_some_iff.1 hk
    have := List.pairwise_iff_getElem.1 hK i k a1 b1 hi
    omega
  · rw [List.getElem?_set_ne e1]
    exact h.2 i t' L' e' hi ht' hL' hm' he'
theorem Num.next {es : List (Int × Int)} {s : Df.St} {F : List (List Nat)} {K : List Nat} {k t : Nat} {l : List Int} {L : List Nat} (p : Parted es s F) (h : Num es.length F K k l) (hk : K[k]? = some t) (hL : L ∈ F) (ht : mn L = t) (hall : ∀ e ∈ L, l[e]? = some (k : Int)) : Num es.length F K (k + 1) l := by
  refine ⟨h.1, fun i t' L' e' hi ht' hL' hm' he' => ?_⟩
  by_cases e1 : i = k
  · subst e1
    rw [hk] at ht'
    cases ht'
    have := p.same hL hL' (ht.trans hm'.symm)
    subst this
    exact hall e' he'
  · exact h.2 i t' L' e' (by omega) ht' hL' hm' he'
theorem Num.done {es : List (Int × Int)} {s : Df.St} {F : List (List Nat)} {K : List Nat} {l : List Int} (p : Parted es s F) (hK : K = (List.range es.length).filter fun e => decide (mB es s e = e)) (h : Num es.length F K K.length l) : l = nums es.length (numB (mB es s)) := by
  refine List.ext_getElem? fun e => ?_
  by_cases he : e < es.length
  · rw [nums_at he]
    obtain ⟨L, hL, heL⟩ := p.all e he
    have h1 := filter_get (fun i => decide (mB es s i = i)) (mB_mem (s := s) he).1 (by simpa using mB_norm.idem e he)
    rw [← hK] at h1
    have h2 := h.2 _ _ L e (List.getElem?_eq_some_iff.1 h1).1 h1 hL (p.mn hL heL) heL
    rw [h2]
    rfl
  · rw [List.getElem?_eq_none (by rw [h.1]; omega), List.getElem?_eq_none (by rw [nums_length]; omega)]
end Bl

def NumPost9 (es : List (Int × Int)) (s : Df.St) (w : World) (e : Ending) (w' : World) : Prop :=
  e = .returned (.slice (some ⟨w.heap.size, 0, none⟩) es.length es.length) ∧ IntsBlk w' w.heap.size (Bl.nums es.length (Bl.numB (Bl.mB es s))) ∧ Below w.heap.size w w'

set_option maxRecDepth 100000 in
set_option maxHeartbeats 16000000 in
theorem numbers_any9 {p : Nat} {av : Value} {mb : Nat} {lo : Option Addr} {lc : Nat} {ov : Value} {n : Nat} {es : List (Int × Int)} {s : Df.St} {F : List (List Nat)} {D : DataW Value} {K : List Nat} (w : World) (h : PtIn w p av mb lo lc ov n es s F D K) :
    Calls Tryz.prog 33 #[.pointer (some ⟨p, 0, none⟩)] w (NumPost9 es s w) := by
  obtain ⟨i0, hi, hz0, hz1, hz2⟩ := info_parts Tryz.infoNum
  have H := Nu.hid h
  obtain ⟨hKl, hfew⟩ := h.few
  obtain ⟨c0, -, -, -, -⟩ := h.cells
  have HM := Nu.hid (aM_any av n es w h.adj)
  have hKr : K.Pairwise (fun a b => a < b) := by rw [h.key]; exact Bl.range_rising _ _
  have HKR := Nu.hid hKr
  clear h hKr
  go_enter Tryz.func33, Tryz.ntmps33
  go_wp2_with (first | (go_at_call 56; refine HM.out.mono ?_; rintro e w1 ⟨rfl, hw1⟩; obtain rfl := hw1.symm) | (at_make; refine wpList_make_full _ rfl _ _ 26 rfl w.heap.size 3 i0 (.int .i64 0) 1 Tryz.underlying26 hi hz0 hz1 _ _ _ _ es.length rfl rfl rfl rfl (by rw [hz2]; omega) (by unfold maxLen; omega) (Nat.le_refl _) ?_; refine Hid.out ?_))
  refine Nu.hid ?_
  intro w1 hrow hg1
  rw [made_zeros] at hrow
  have hik := ints_of_row hrow
  have hb1 : Below w.heap.size w w1 := (Below.refl _ _).grown hg1 (Nat.le_refl _) (fun j hj => by cases hj)
  have HB1 := Nu.hid hb1
  have HI1 := Nu.hid hik
  obtain ⟨-, -, c2, -, -⟩ := (H.out.later hb1).cells
  clear hrow hg1 hik hb1
  go_wp2
  go_loopw [19] (fun cv wr => ∃ k : Nat, k ≤ K.length ∧ cv = .int .i64 (k : Int) ∧ ∃ l, IntsBlk wr w.heap.size l ∧ Bl.Num es.length F K k l ∧ Below w.heap.size w wr) (fun cv _ => K.length - (intOf cv).toNat)
  case atStart => exact ⟨0, Nat.zero_le _, rfl, _, HI1.out, Bl.Num.start _ _ _, HB1.out⟩
  case round =>
    clear HI1 HB1 c0
    obtain ⟨k, hk, rfl, l, hI, hN, hb⟩ := hrel
    have HI := Nu.hid hI
    have HN := Nu.hid hN
    have HB := Nu.hid hb
    by_cases hkn : k < K.length
    · have hlti : (k : Int) < (K.length : Int) := by omega
      have k0 : (0 : Int) ≤ (k : Int) := by omega
      have hr := H.out.later hb
      obtain ⟨-, c1, -, -, -⟩ := hr.cells
      obtain ⟨t, ht⟩ : ∃ t, K[k]? = some t := ⟨_, List.getElem?_eq_getElem hkn⟩
      obtain ⟨bo, oo, elo, d0⟩ := hr.kat k (t : Int) (by rw [List.getElem?_map, ht]; rfl)
      obtain ⟨L, hL, hLt, htl⟩ := hr.blockAt ht
      obtain ⟨gL, hgLl, hlks⟩ := H.out.mp.looks hL (by omega)
      obtain ⟨hlk, hgL⟩ := hlks wr hb
      rw [hLt] at hlk
      have hLlen : L.length ≤ 4194304 := by
        have := Bl.nodup_sub (l1 := L) (l2 := List.range es.length) (hr.pt.one L hL).2.1 (fun e he => List.mem_range.2 (hr.pt.lt hL he))
        simp at this
        omega
      have HLE : Hid (∀ e ∈ L, e < es.length) := fun e he => hr.pt.lt hL he
      have HGL : Hid (∀ W, Below w.heap.size w W → IntsBlk W gL (L.map Nat.cast)) := fun W hW => (hlks W hW).2
      have HT := Nu.hid ht
      have HL := Nu.hid hL
      have HLT := Nu.hid hLt
      rw [elo] at c2 ⊢
      clear hI hN hb hr ht hL hLt hgL elo hlks
      go_wp2
      go_loopw [31] (fun cv wr => ∃ j : Nat, j ≤ L.length ∧ cv = .int .i64 (j : Int) ∧ ∃ l, IntsBlk wr w.heap.size l ∧ Bl.Num es.length F K k l ∧ (∀ e ∈ L.take j, l[e]? = some (k : Int)) ∧ Below w.heap.size w wr) (fun cv _ => L.length - (intOf cv).toNat)
      case atStart => exact ⟨0, Nat.zero_le _, rfl, l, HI.out, HN.out, fun e he => (by simp at he), HB.out⟩
      case round =>
        clear HI HN HB c1 hlk d0
        obtain ⟨j, hj, rfl, l, hI, hN, hA, hb⟩ := hrel
        have HI := Nu.hid hI
        have HN := Nu.hid hN
        have HA := Nu.hid hA
        have HB := Nu.hid hb
        by_cases hjn : j < L.length
        · have hljn : (j : Int) < (L.length : Int) := by omega
          have j0 : (0 : Int) ≤ (j : Int) := by omega
          obtain ⟨e, he⟩ : ∃ e, L[j]? = some e := ⟨_, List.getElem?_eq_getElem hjn⟩
          have hem : e ∈ L := List.mem_of_getElem? he
          have hel := HLE.out e hem
          have de := (HGL.out wr hb).cell (i := j) (x := (e : Int)) (by rw [List.getElem?_map, he]; rfl)
          obtain ⟨y, hy⟩ : ∃ y, l[e]? = some y := ⟨_, List.getElem?_eq_getElem (by rw [hN.1]; exact hel)⟩
          have cy := hI.cell hy
          have cf := hI.free e
          have e0 : (0 : Int) ≤ (e : Int) := by omega
          have e1 : (e : Int) < (es.length : Int) := by omega
          have HS : Hid (IntsBlk (wr.setCell ⟨w.heap.size, e, none⟩ (.int .i64 (k : Int))) w.heap.size (l.set e (k : Int)) ∧ Bl.Num es.length F K k (l.set e (k : Int)) ∧ (∀ e' ∈ L.take (j + 1), (l.set e (k : Int))[e']? = some (k : Int)) ∧ Below w.heap.size w (wr.setCell ⟨w.heap.size, e, none⟩ (.int .i64 (k : Int)))) := by
            refine ⟨hI.set e _, hN.put H.out.pt HKR.out HT.out HL.out HLT.out hem, fun e' he' => ?_, hb.setCell (p := ⟨w.heap.size, e, none⟩) (Nat.le_refl _) _⟩
            by_cases e3 : e = e'
            · subst e3
              rw [List.getElem?_set_self (by rw [hN.1]; exact hel)]
            · rw [List.getElem?_set_ne e3]
              rw [List.take_add_one, he] at he'
              rcases List.mem_append.1 he' with h1 | h1
              · exact hA e' h1
              · have : e' = e := by simpa using h1
                exact absurd this.symm e3
          clear hI hN hA hb he hem hy
          go_wp2
          go_roundw
          case rel => exact ⟨j + 1, by omega, by go_num, _, HS.out.1, HS.out.2.1, HS.out.2.2.1, HS.out.2.2.2⟩
          case measure => simp [intOf]; omega
        · have hljn : ¬ (j : Int) < (L.length : Int) := by omega
          have HNX : Hid (Bl.Num es.length F K (k + 1) l) := hN.next H.out.pt HT.out HL.out HLT.out (fun e he => hA e (by rw [List.take_of_length_le (by omega)]; exact he))
          clear hI hN hA hb
          go_wp2
          go_roundw
          case rel => exact ⟨k + 1, by omega, by go_num, l, HI.out, HNX.out, HB.out⟩
          case measure => simp [intOf]; omega
    · have hlti : ¬ (k : Int) < (K.length : Int) := by omega
      obtain rfl : k = K.length := by omega
      have HE : Hid (NumPost9 es s w (.returned (.slice (some ⟨w.heap.size, 0, none⟩) es.length es.length)) wr) := by
        refine ⟨rfl, ?_, hb⟩
        rw [← hN.done H.out.pt H.out.key]
        exact hI
      clear hI hN hb
      go_wp2
      go_ret
      exact HE.out
end Go.Proofs.YtalfpbalekbinaaGreat

/-
  A walk under way, in memory.
-/
namespace Go.Proofs.YtalfpbalekbinaaGreat
open Go.RowKit

/-- The cells of a walker. -/
abbrev wcells (av : Value) (gp gh gr n m : Nat) (ov sv : Value) : Array Value := #[av, .slice (some ⟨gp, 0, none⟩) n n, .slice (some ⟨gh, 0, none⟩) n n, ov, .slice (some ⟨gr, 0, none⟩) m m, sv]

/-- Block p is a walker over the Adj av, the walk s under way, K what is ahead; all of it was laid since w0. -/
structure WalkAt (w0 w : World) (p gp gh gr : Nat) (av ov sv : Value) (n m : Nat) (s : Df.St) (K : List Int) : Prop where
  bel : Below w0.heap.size w0 w
  blk : w.heap[p]? = some (.cells (wcells av gp gh gr n m ov sv) 95 (0, 0))
  ip : IntsBlk w gp s.par
  ih : IntsBlk w gh s.hei
  ir : IntsBlk w gr s.ori
  ow : OwnZ w w0.heap.size ov s.ord
  sw : OwnZ w w0.heap.size sv K
  lo : w0.heap.size ≤ p ∧ w0.heap.size ≤ gp ∧ w0.heap.size ≤ gh ∧ w0.heap.size ≤ gr
  ne : p ≠ gp ∧ p ≠ gh ∧ p ≠ gr ∧ gp ≠ gh ∧ gp ≠ gr ∧ gh ≠ gr
  of_ : ov.ownBlock ≠ some p ∧ ov.ownBlock ≠ some gp ∧ ov.ownBlock ≠ some gh ∧ ov.ownBlock ≠ some gr
  sf : sv.ownBlock ≠ some p ∧ sv.ownBlock ≠ some gp ∧ sv.ownBlock ≠ some gh ∧ sv.ownBlock ≠ some gr
  os : ∀ b, ov.ownBlock = some b → sv.ownBlock ≠ some b



section
variable {w0 w w' : World} {p gp gh gr : Nat} {av ov sv : Value} {n m : Nat} {s : Df.St} {K : List Int}

theorem WalkAt.c0 (h : WalkAt w0 w p gp gh gr av ov sv n m s K) : w.cell? ⟨p, 0, none⟩ = some av := by simp [World.cell?, h.blk]
theorem WalkAt.c1 (h : WalkAt w0 w p gp gh gr av ov sv n m s K) : w.cell? ⟨p, 1, none⟩ = some (.slice (some ⟨gp, 0, none⟩) n n) := by simp [World.cell?, h.blk]
theorem WalkAt.c2 (h : WalkAt w0 w p gp gh gr av ov sv n m s K) : w.cell? ⟨p, 2, none⟩ = some (.slice (some ⟨gh, 0, none⟩) n n) := by simp [World.cell?, h.blk]
theorem WalkAt.c3 (h : WalkAt w0 w p gp gh gr av ov sv n m s K) : w.cell? ⟨p, 3, none⟩ = some ov := by simp [World.cell?, h.blk]
theorem WalkAt.c4 (h : WalkAt w0 w p gp gh gr av ov sv n m s K) : w.cell? ⟨p, 4, none⟩ = some (.slice (some ⟨gr, 0, none⟩) m m) := by simp [World.cell?, h.blk]
theorem WalkAt.free (h : WalkAt w0 w p gp gh gr av ov sv n m s K) (i : Nat) : w.frozen? ⟨p, i, none⟩ = false := by simp [World.frozen?, h.blk]
theorem WalkAt.lt (h : WalkAt w0 w p gp gh gr av ov sv n m s K) : p < w.heap.size := lt_of_block h.blk

theorem WalkAt.later (h : WalkAt w0 w p gp gh gr av ov sv n m s K) (hb : Below w.heap.size w w') : WalkAt w0 w' p gp gh gr av ov sv n m s K :=
  ⟨h.bel.trans (hb.mono h.bel.size), (hb.block p h.lt).trans h.blk, h.ip.later hb, h.ih.later hb, h.ir.later hb, h.ow.later hb, h.sw.later hb, h.lo, h.ne, h.of_, h.sf, h.os⟩

theorem WalkAt.stk (h : WalkAt w0 w p gp gh gr av ov sv n m s K) : StkAt w p 5 (wcells av gp gh gr n m ov sv) 95 w0.heap.size sv K := ⟨h.blk, rfl, h.sw, h.sf.1⟩

theorem WalkAt.setPar (h : WalkAt w0 w p gp gh gr av ov sv n m s K) (v : Nat) (x : Int) : WalkAt w0 (w.setCell ⟨gp, v, none⟩ (.int .i64 x)) p gp gh gr av ov sv n m { s with par := s.par.set v x } K :=
  ⟨h.bel.setCell (p := ⟨gp, v, none⟩) h.lo.2.1 _, (blk_same h.ne.1 _).trans h.blk, h.ip.set v x, h.ih.set_far (Ne.symm h.ne.2.2.2.1) _, h.ir.set_far (Ne.symm h.ne.2.2.2.2.1) _, h.ow.set_far h.of_.2.1 _, h.sw.set_far h.sf.2.1 _, h.lo, h.ne, h.of_, h.sf, h.os⟩

theorem WalkAt.setHei (h : WalkAt w0 w p gp gh gr av ov sv n m s K) (v : Nat) (x : Int) : WalkAt w0 (w.setCell ⟨gh, v, none⟩ (.int .i64 x)) p gp gh gr av ov sv n m { s with hei := s.hei.set v x } K :=
  ⟨h.bel.setCell (p := ⟨gh, v, none⟩) h.lo.2.2.1 _, (blk_same h.ne.2.1 _).trans h.blk, h.ip.set_far h.ne.2.2.2.1 _, h.ih.set v x, h.ir.set_far (Ne.symm h.ne.2.2.2.2.2) _, h.ow.set_far h.of_.2.2.1 _, h.sw.set_far h.sf.2.2.1 _, h.lo, h.ne, h.of_, h.sf, h.os⟩

theorem WalkAt.setOri (h : WalkAt w0 w p gp gh gr av ov sv n m s K) (v : Nat) (x : Int) : WalkAt w0 (w.setCell ⟨gr, v, none⟩ (.int .i64 x)) p gp gh gr av ov sv n m { s with ori := s.ori.set v x } K :=
  ⟨h.bel.setCell (p := ⟨gr, v, none⟩) h.lo.2.2.2 _, (blk_same h.ne.2.2.1 _).trans h.blk, h.ip.set_far h.ne.2.2.2.2.1 _, h.ih.set_far h.ne.2.2.2.2.2 _, h.ir.set v x, h.ow.set_far h.of_.2.2.2 _, h.sw.set_far h.sf.2.2.2 _, h.lo, h.ne, h.of_, h.sf, h.os⟩

/-- Order is appended to. -/
theorem WalkAt.putOrd {w1 : World} {ov' : Value} {x : Int} {tmp : Obj} (h : WalkAt w0 w p gp gh gr av ov sv n m s K) (hown : OwnZ w1 w0.heap.size ov' (s.ord ++ [x])) (hg : (w.alloc tmp).grownBy w1 ov.ownBlock) (hat : ov'.ownBlock = ov.ownBlock ∨ ov'.ownBlock = some (w.heap.size + 1)) :
    WalkAt w0 (w1.setCell ⟨p, 3, none⟩ ov') p gp gh gr av ov' sv n m { s with ord := s.ord ++ [x] } K ∧ w1.cell? ⟨p, 3, none⟩ = some ov ∧ w1.frozen? ⟨p, 3, none⟩ = false ∧ w1.heap[p]? = w.heap[p]? := by
  have keep : ∀ b, b < w.heap.size → ov.ownBlock ≠ some b → w1.heap[b]? = w.heap[b]? := fun b hb hne => by
    rw [hg.block b (by rw [World.size_alloc]; omega) (fun e => hne e.symm)]
    exact Below.heap_alloc w tmp b hb
  have hp := keep p h.lt h.of_.1
  have hp1 := hp.trans h.blk
  have hsz : w.heap.size ≤ w1.heap.size := by
    have := hg.size
    rw [World.size_alloc] at this
    omega
  have hB := h.bel.size
  have hnew : ∀ b, b < w.heap.size → ov.ownBlock ≠ some b → ov'.ownBlock ≠ some b := fun b hb hne e => by
    rcases hat with e1 | e1
    · exact hne (e1.symm.trans e)
    · rw [e1] at e
      have := Option.some.inj e
      omega
  have hfp := hnew p h.lt h.of_.1
  refine ⟨⟨?_, ?_, ?_, ?_, ?_, ?_, ?_, h.lo, h.ne, ⟨hfp, hnew gp h.ip.lt h.of_.2.1, hnew gh h.ih.lt h.of_.2.2.1, hnew gr h.ir.lt h.of_.2.2.2⟩, h.sf, fun b hb hs => ?_⟩, by simp [World.cell?, hp1], by simp [World.frozen?, hp1], hp⟩
  · have hb1 : Below w0.heap.size w w1 := ⟨hg.os, hg.tape, hg.output, hsz, fun k hk => keep k (by omega) (fun e => by have := (h.ow.lt e).1; omega)⟩
    exact (h.bel.trans hb1).setCell (p := ⟨p, 3, none⟩) h.lo.1 _
  · rw [heap_setCell_same w1 p 3 _ _ _ hp1]
    rfl
  · exact IntsBlk.set_far ((keep gp h.ip.lt h.of_.2.1).trans h.ip) (Ne.symm h.ne.1) _
  · exact IntsBlk.set_far ((keep gh h.ih.lt h.of_.2.2.1).trans h.ih) (Ne.symm h.ne.2.1) _
  · exact IntsBlk.set_far ((keep gr h.ir.lt h.of_.2.2.2).trans h.ir) (Ne.symm h.ne.2.2.1) _
  · exact hown.set_far hfp _
  · exact OwnZ.set_far (h.sw.same fun b hb hl => keep b hl fun e => h.os b e hb) h.sf.1 _
  · exact hnew b (h.sw.lt hs).2 (fun e => h.os b e hs) hb

/-- The stack is pushed. -/
theorem WalkAt.pushed {e : Ending} {K' : List Int} (h : WalkAt w0 w p gp gh gr av ov sv n m s K) (hp : PushPost p 5 (wcells av gp gh gr n m ov sv) 95 w0.heap.size sv K' w e w') : ∃ sv', WalkAt w0 w' p gp gh gr av ov sv' n m s K' := by
  obtain ⟨_, v', hst, hat, hw⟩ := hp
  have keep : ∀ b, b < w.heap.size → b ≠ p → sv.ownBlock ≠ some b → w'.heap[b]? = w.heap[b]? := fun b hb h1 h2 => hw.block b hb (fun e => e.elim h1 h2)
  have hnew : ∀ b, b < w.heap.size → sv.ownBlock ≠ some b → v'.ownBlock ≠ some b := fun b hb hne e => by
    rcases hat with e1 | ⟨g, e1, hg⟩
    · exact hne (e1.symm.trans e)
    · rw [e1] at e
      have := Option.some.inj e
      omega
  have hB := h.bel.size
  refine ⟨v', ⟨h.bel.trans (hw.below hB fun k hk => ?_), hst.blk, (keep gp h.ip.lt (Ne.symm h.ne.1) h.sf.2.1).trans h.ip, (keep gh h.ih.lt (Ne.symm h.ne.2.1) h.sf.2.2.1).trans h.ih, (keep gr h.ir.lt (Ne.symm h.ne.2.2.1) h.sf.2.2.2).trans h.ir,
    h.ow.same fun b hb hl => keep b hl (fun e => h.of_.1 (by rw [hb, e])) (h.os b hb), hst.own, h.lo, h.ne, h.of_, ⟨hst.far, hnew gp h.ip.lt h.sf.2.1, hnew gh h.ih.lt h.sf.2.2.1, hnew gr h.ir.lt h.sf.2.2.2⟩, fun b hb => hnew b (h.ow.lt hb).2 (h.os b hb)⟩⟩
  rcases hk with rfl | hk
  · exact h.lo.1
  · exact (h.sw.lt hk).1

/-- The stack is popped. -/
theorem WalkAt.popped {x : Int} {e : Ending} {K' : List Int} (h : WalkAt w0 w p gp gh gr av ov sv n m s K) (hp : PopPost p 5 (wcells av gp gh gr n m ov sv) 95 w0.heap.size sv K' x w e w') : ∃ sv', WalkAt w0 w' p gp gh gr av ov sv' n m s K' := by
  obtain ⟨_, v', hst, hat, hw⟩ := hp
  have keep : ∀ b, b < w.heap.size → b ≠ p → w'.heap[b]? = w.heap[b]? := fun b hb h1 => hw.block b hb h1
  have hB := h.bel.size
  refine ⟨v', ⟨h.bel.trans (hw.below hB fun k hk => by subst hk; exact h.lo.1), hst.blk, (keep gp h.ip.lt (Ne.symm h.ne.1)).trans h.ip, (keep gh h.ih.lt (Ne.symm h.ne.2.1)).trans h.ih, (keep gr h.ir.lt (Ne.symm h.ne.2.2.1)).trans h.ir,
    h.ow.same fun b hb hl => keep b hl (fun e => h.of_.1 (by rw [hb, e])), hst.own, h.lo, h.ne, h.of_, by rw [hat]; exact h.sf, by rw [hat]; exact h.os⟩⟩
end

end Go.Proofs.YtalfpbalekbinaaGreat

/-
  To reach a vertex; to walk a half-edge.
-/
namespace Go.Proofs.YtalfpbalekbinaaGreat
open Go.RowKit

section
variable {w0 w : World} {p gp gh gr : Nat} {av ov sv : Value} {n : Nat} {es : List (Int × Int)} {s : Df.St} {K : List Int}

/-- What is so behind a step of the walk. -/
def WPost (w0 : World) (p gp gh gr : Nat) (av : Value) (n : Nat) (es : List (Int × Int)) (s : Df.St) (K : List Int) (e : Ending) (w' : World) : Prop :=
  e = .returned (.tuple #[]) ∧ ∃ ov sv, WalkAt w0 w' p gp gh gr av ov sv n es.length s K



set_option maxRecDepth 100000 in
set_option maxHeartbeats 4000000 in
theorem reached_any (v : Nat) (h : WalkAt w0 w p gp gh gr av ov sv n es.length s K) (hl : s.hei.length = n) (hv : v < n) :
    Calls Tryz.prog 51 #[.pointer (some ⟨p, 0, none⟩), .int .i64 (v : Int)] w fun e w' => e = .returned (.bool (s.height v != -1)) ∧ w' = w := by
  have c2 := h.c2
  have d0 := h.ih.cell (getD_of (-1) (by omega : v < s.hei.length))
  have e0 : (0 : Int) ≤ (v : Int) := by omega
  have e1 : (v : Int) < (n : Int) := by omega
  clear h
  obtain ⟨x, hx⟩ : ∃ x, s.hei.getD v (-1) = x := ⟨_, rfl⟩
  rw [hx] at d0
  have hx' : s.height v = x := hx
  rw [hx']
  clear hx hx'
  go_enter Tryz.func51, Tryz.ntmps51
  go_wp2
  go_ret
  exact ⟨rfl, rfl⟩

set_option maxRecDepth 100000 in
set_option maxHeartbeats 4000000 in
theorem walked_any (h : Nat) (hW : WalkAt w0 w p gp gh gr av ov sv n es.length s K) (hl : s.ori.length = es.length) (hh : h < 2 * es.length) (hm : es.length ≤ 4194304) :
    Calls Tryz.prog 73 #[.pointer (some ⟨p, 0, none⟩), .int .i64 (h : Int)] w fun e w' => e = .returned (.bool (s.dir (h / 2) != -1)) ∧ w' = w := by
  have c4 := hW.c4
  obtain ⟨jh, hjh⟩ : ∃ jh, h / 2 = jh := ⟨_, rfl⟩
  have d0 := hW.ir.cell (getD_of (-1) (by omega : jh < s.ori.length))
  rw [hjh]
  have htd : (h : Int).tdiv 2 = (jh : Int) := by rw [Int.tdiv_eq_ediv_of_nonneg (by omega)]; omega
  have htd2 : (h : Int) / 2 = (jh : Int) := by omega
  have e0 : (0 : Int) ≤ (jh : Int) := by omega
  have e1 : (jh : Int) < (es.length : Int) := by omega
  have e2 : (0 : Int) ≤ (h : Int) := by omega
  obtain ⟨x, hx⟩ : ∃ x, s.ori.getD jh (-1) = x := ⟨_, rfl⟩
  rw [hx] at d0
  have hx' : s.dir jh = x := hx
  rw [hx']
  clear hW hx hx'
  go_enter Tryz.func73, Tryz.ntmps73
  go_wp2
  go_ret
  exact ⟨rfl, rfl⟩

set_option maxRecDepth 100000 in
set_option maxHeartbeats 8000000 in
theorem reach_any (v : Nat) (x y : Int) (hadj : IsAdj w0 av n es) (h : WalkAt w0 w p gp gh gr av ov sv n es.length s K) (hp : s.par.length = n) (hl : s.hei.length = n) (hv : v < n) (ho : s.ord.length ≤ 17592186044000) (hK : K.length ≤ 17592186044000) :
    Calls Tryz.prog 68 #[.pointer (some ⟨p, 0, none⟩), .int .i64 (v : Int), .int .i64 x, .int .i64 y] w (WPost w0 p gp gh gr av n es (s.reach v x y) (K ++ [Cs.firstI n es v])) := by
  obtain ⟨i0, hi, hz0, hz1, hz2⟩ := info_parts Tryz.infoNum
  have h1 := h.setPar v x
  have h2 := h1.setHei v y
  have c1 := h.c1
  have d1 := h.ip.cell (getD_of (-1) (by omega : v < s.par.length))
  have f1 := h.ip.free v
  have c2 := h1.c2
  have d2 := h1.ih.cell (getD_of (-1) (by dsimp only; omega : v < { s with par := s.par.set v x }.hei.length))
  have f2 := h1.ih.free v
  have c3 := h2.c3
  have e0 : (0 : Int) ≤ (v : Int) := by omega
  have e1 : (v : Int) < (n : Int) := by omega
  obtain ⟨w2, hw2⟩ : ∃ w2, w2 = (w.setCell ⟨gp, v, none⟩ (.int .i64 x)).setCell ⟨gh, v, none⟩ (.int .i64 y) := ⟨_, rfl⟩
  rw [← hw2] at h2
  have HW2 := Nu.hid hw2
  have hav : ∃ q, av = .pointer q := by
    rcases hadj with ⟨h, _⟩ | ⟨_, p, h, _⟩
    · exact ⟨_, h⟩
    · exact ⟨_, h⟩
  obtain ⟨q, rfl⟩ := hav
  have hrow : w2.ownsRow w0.heap.size 3 1 ov s.ord.length (s.ord.map (Value.int .i64)) := h2.ow
  have HROW := Nu.hid hrow
  have H2 := Nu.hid h2
  have hB := h2.bel.size
  have hlt2 := h2.lt
  have HADJ := Nu.hid hadj
  clear h h1 h2 hw2 hrow hadj
  go_enter Tryz.func68, Tryz.ntmps68
  go_wp2_with (at_builtin; rw [← HW2.out]; refine Hid.out ?_)
  refine Nu.hid ?_
  have hszw : w2.heap.size = w.heap.size := by rw [HW2.out]; simp
  refine wpList_append_own_at _ rfl _ _ 26 rfl w0.heap.size 3 i0 (.int .i64 0) 1 8 Tryz.underlying26 hi hz0 hz1 hz2 rfl (by decide) ov _ _ rfl (World.ownsRow.alloc HROW.out _) ⟨w.heap.size, 0, none⟩ 1 1 [.int .i64 (v : Int)] rfl rfl (by rw [← hszw]; exact cell_one_new _ _ _) (by simp [Value.oneCell']) (by unfold maxLen; omega) (by omega) (by simp; omega) ?_
  intro ov' w3 hown hg _ hat
  have hz : OwnZ w3 w0.heap.size ov' (s.ord ++ [(v : Int)]) := by
    unfold OwnZ
    rw [List.length_append, List.map_append]
    exact hown
  obtain ⟨h3, c5, f5, _⟩ := H2.out.putOrd hz hg (by simpa using hat)
  obtain ⟨g3, cap3, hv3⟩ := own_succ hown
  subst hv3
  obtain ⟨w4, hw4⟩ : ∃ w4, w4 = w3.setCell ⟨p, 3, none⟩ (.slice (some ⟨g3, 0, none⟩) (s.ord.length + 1) cap3) := ⟨_, rfl⟩
  rw [← hw4] at h3
  have HW4 := Nu.hid hw4
  have H3 := Nu.hid h3
  clear hown hg hat hz hw4 h3 c1 c2 c3 d1 d2 f1 f2 HROW H2
  go_wp2_with fail
  rw [← HW4.out]
  have c6 := H3.out.c0
  have HF : Hid (∀ V, Below w4.heap.size w4 V → Calls Tryz.prog 57 #[.pointer q, .int .i64 (v : Int)] V fun e V' => e = .returned (.int .i64 (Cs.firstI n es v)) ∧ Below V.heap.size V V') := fun V hV => (first_any _ n es v V (HADJ.out.later (H3.out.bel.trans (hV.mono H3.out.bel.size)))).mono (by
    rintro e V' ⟨rfl, k, rfl⟩
    exact ⟨rfl, below_drewN (Below.refl _ _) k⟩)
  have HP : Hid (∀ V, Below w4.heap.size w4 V → Calls Tryz.prog 71 #[.pointer (some ⟨p, 5, none⟩), .int .i64 (Cs.firstI n es v)] V fun e V' => e = .returned (.tuple #[]) ∧ ∃ ov sv, WalkAt w0 V' p gp gh gr (.pointer q) ov sv n es.length (s.reach v x y) (K ++ [Cs.firstI n es v])) := fun V hV => by
    have hW := H3.out.later hV
    refine (push_any p 5 _ _ _ _ K (Cs.firstI n es v) V hW.stk hW.bel.size hK).mono ?_
    intro e V' hp
    obtain ⟨sv', h⟩ := hW.pushed hp
    exact ⟨hp.1, _, sv', h⟩
  have hbd : Below w4.heap.size w4 w4.drew := (Below.refl _ _).drew
  have hS : ∀ V, Below w4.heap.size w4 V → (V.cell? ⟨p, 0, none⟩ = some (.pointer q)) := fun V hV => (H3.out.later hV).c0
  have HS := Nu.hid hS
  clear c6 hS c5 f5
  go_region_held3 (fun V => V.cell? ⟨p, 0, none⟩ = some (.pointer q))
    (first | exact HS.out _ (by first | assumption | exact hbd) | (obtain ⟨_, _, hw⟩ := ‹∃ ov sv, WalkAt _ _ _ _ _ _ _ ov sv _ _ _ _›; exact hw.c0))
    ((first
      | (go_at_call 57; refine (HF.out _ (by first | assumption | exact hbd)).mono ?_; rintro e V1 ⟨rfl, hv1⟩; have hb1 : Below w4.heap.size w4 V1 := Below.trans (by first | assumption | exact hbd) (hv1.mono (Below.size (by first | assumption | exact hbd))))
      | (go_at_call 71; refine (HP.out _ (by first | assumption | exact hbd)).mono ?_; rintro e V2 ⟨rfl, hv2⟩)))
  all_goals
    go_wp2
    go_end0
    exact ⟨rfl, hv2⟩
end

end Go.Proofs.YtalfpbalekbinaaGreat
