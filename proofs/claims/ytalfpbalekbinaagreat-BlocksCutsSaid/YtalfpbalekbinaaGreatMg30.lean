import Derived.Test.YtalfpbalekbinaaGreatMg09
import Derived.Test.YtalfpbalekbinaaGreatMg02
import Derived.Test.YtalfpbalekbinaaGreatMg03
import Derived.Deep.QuietTactic
import Derived.BigQuiet
import Derived.Test.YtalfpbalekbinaaGreatMg29
import Derived.Test.YtalfpbalekbinaaGreatMg08
import Derived.Test.YtalfpbalekbinaaGreatMg20
/-
  The document's own Copy.
-/
namespace Go.Proofs.YtalfpbalekbinaaGreat
open Go.RowKit Go.Sort

set_option maxRecDepth 100000 in
set_option maxHeartbeats 4000000 in
theorem rcopy_any (n : Int) (ao : Option Addr) (ca : Nat) (es : List (Int × Int)) (w : World) (he : EdgesAt w ao es) (hl : es.length * 16 ≤ 140737488355328) :
    Calls Tryz.prog 6 #[graphVal n ao es.length ca] w fun e w' => ∃ v, e = .returned (.agg #[.int .i64 n, v]) ∧ OwnE w' w.heap.size v es ∧ Below w.heap.size w w' := by
  obtain ⟨i0, hi, hz0, hz1, hz2⟩ := info_parts Tryz.infoEdge
  have HE := Nu.hid he
  clear he
  unfold graphVal
  go_enter Tryz.func6, Tryz.ntmps6
  go_wp2
  go_loopw [3, 4] (fun v c wr => ∃ (k : Nat) (L : List (Int × Int)), k ≤ es.length ∧ c = .int .i64 k ∧ L = es.take k ∧ OwnE wr (w.heap.size + 2) v L ∧ wr.heap[w.heap.size]? = some (.cells #[.int .i64 n, .slice ao es.length ca] 24 (0, 0)) ∧ wr.heap[w.heap.size + 1]? = some (.cells #[.int .i64 0, .slice none 0 0] 24 (0, 0)) ∧ Below w.heap.size w wr) (fun _ c _ => es.length - (intOf c).toNat)
  case atStart =>
    refine ⟨0, [], Nat.zero_le _, rfl, by simp, OwnE.nil _ _, ?_, ?_, ((Below.refl _ _).alloc (Nat.le_refl _) _).alloc (by simp) _⟩
    · rw [Below.heap_alloc _ _ _ (by simp)]
      exact heap_alloc_new w _
    · have := heap_alloc_new (w.alloc (.cells #[.int .i64 n, .slice ao es.length ca] 24)) (.cells #[.int .i64 0, .slice none 0 0] 24)
      simpa using this
  case round =>
    obtain ⟨k, L, hk, rfl, hL, hrow, hg1, hg2, hb⟩ := hrel
    obtain ⟨a0, a1, -⟩ := pair_cells hg1
    obtain ⟨b0, b1, bf⟩ := pair_cells hg2
    have hs1 := lt_of_block hg1
    have hs2 := lt_of_block hg2
    have hLl : L.length = k := by rw [hL]; simp; omega
    have HG1 := Nu.hid hg1
    have HG2 := Nu.hid hg2
    have HL := Nu.hid hL
    have HROW := Nu.hid hrow
    have HB := Nu.hid hb
    have HLL := Nu.hid hLl
    have hs0 : w.heap.size ≤ wr.heap.size := hb.size
    clear hg1 hg2 hL hLl
    by_cases hlt : k < es.length
    · have hlti : (k : Int) < (es.length : Int) := by omega
      have hk0 : (0 : Int) ≤ (k : Int) := by omega
      obtain ⟨p, hp⟩ : ∃ p, es[k]? = some p := ⟨_, List.getElem?_eq_getElem hlt⟩
      obtain ⟨b, o, rfl, c0, c1⟩ := (HE.out.later hb) k p hp
      have hbl : b < wr.heap.size := block_lt_of_cell c0
      have HSN : Hid (es.take (k + 1) = L ++ [p]) := by
        show es.take (k + 1) = L ++ [p]
        rw [HL.out]
        exact Si.take_snoc hp
      clear hp hb hrow
      go_wp2_with (at_builtin; refine wpList_append_own _ rfl _ _ 22 rfl (w.heap.size + 2) 46 i0 (.agg #[.int .i64 0, .int .i64 0]) 2 16 Tryz.underlying22 hi hz0 hz1 hz2 rfl (by decide) _ _ _ rfl (World.ownsRow.alloc HROW.out _) ⟨wr.heap.size, 0, none⟩ 1 1 [.int .i64 p.1, .int .i64 p.2] rfl rfl (new_two_e _ _ rfl _ _ _) (by simp [Value.oneCell']) (by rw [HLL.out]; unfold maxLen; omega) (by rw [HLL.out]; omega) (by simp; omega) ?_; refine Hid.out ?_)
      refine Nu.hid ?_
      intro v' w3 hrow3 hg3 _
      have HROW3 : Hid (OwnE w3 (w.heap.size + 2) v' (L ++ [p])) := by
        unfold OwnE
        rw [flatE_snoc, List.length_append]
        exact hrow3
      have HG13 := Nu.hid ((hg3.block _ (by simp; omega) (fun h => HROW.out.far (by omega) h.symm)).trans ((Below.heap_alloc _ _ _ hs1).trans HG1.out))
      have HG23 := Nu.hid ((hg3.block _ (by simp; omega) (fun h => HROW.out.far (by omega) h.symm)).trans ((Below.heap_alloc _ _ _ hs2).trans HG2.out))
      have HB3 := Nu.hid ((HB.out.alloc hs0 _).grown hg3 (by simp; omega) (fun j hj => by have := (World.ownsRow.lt HROW.out j hj).1; omega))
      clear hrow3 hg3
      go_wp2
      go_roundw
      case rel => exact ⟨k + 1, _, by omega, by go_num, HSN.out.symm, HROW3.out, HG13.out, HG23.out, HB3.out⟩
      case measure => simp [intOf]; omega
    · have hd : ¬ ((k : Int) < (es.length : Int)) := by omega
      have hLe : L = es := by
        rw [HL.out]
        exact List.take_of_length_le (by omega)
      have HLE := Nu.hid hLe
      clear hLe hb hrow
      obtain ⟨ao', cap', rfl, _, _, _, hx⟩ := HROW.out.form
      have HX := Nu.hid hx
      clear hx
      go_wp2
      have hgr := pair_set HG2.out (.int .i64 n) (.slice ao' L.length cap')
      obtain ⟨r0, r1, -⟩ := pair_cells hgr
      refine bodyPost_ret (v := .agg #[.int .i64 n, .slice ao' L.length cap']) (by simp [results, Tryz.results6, go_sem, r0, r1]) rfl ?_
      refine ⟨_, rfl, ?_, (HB.out.setCell (by simp) _).setCell (by simp) _⟩
      rw [← HLE.out]
      exact HROW.out.set2 (by omega) _ _

end Go.Proofs.YtalfpbalekbinaaGreat

/-
  What the laws on blocks ask, over and over.
-/
namespace Go.Proofs.YtalfpbalekbinaaGreat
open Go.RowKit

/-- The graph that came in: its edges, and the block that holds it. -/
structure Gr9 (w : World) (n : Int) (ao : Option Addr) (ca : Nat) (es : List (Int × Int)) (W : World) : Prop where
  at_ : EdgesAt w ao es
  low : Below w.heap.size w W
  box : W.heap[w.heap.size]? = some (.cells #[.int .i64 n, .slice ao es.length ca] 24 (0, 0))

section
variable {w W W' : World} {n : Int} {ao : Option Addr} {ca : Nat} {es : List (Int × Int)}
theorem Gr9.start (h : EdgesAt w ao es) : Gr9 w n ao ca es (w.alloc (.cells #[.int .i64 n, .slice ao es.length ca] 24)) := ⟨h, (Below.refl _ _).alloc (Nat.le_refl _) _, heap_alloc_new w _⟩
theorem Gr9.later (h : Gr9 w n ao ca es W) (hb : Below W.heap.size W W') : Gr9 w n ao ca es W' := ⟨h.at_, h.low.trans (hb.mono h.low.size), (hb.block _ (lt_of_block h.box)).trans h.box⟩
theorem Gr9.edges (h : Gr9 w n ao ca es W) : EdgesAt W ao es := h.at_.later h.low
theorem Gr9.cells (h : Gr9 w n ao ca es W) : W.cell? ⟨w.heap.size, 0, none⟩ = some (.int .i64 n) ∧ W.cell? ⟨w.heap.size, 1, none⟩ = some (.slice ao es.length ca) := by
  obtain ⟨x0, x1, -⟩ := pair_cells h.box
  exact ⟨x0, x1⟩
theorem Gr9.copy (h : Gr9 w n ao ca es W) (hl : es.length * 16 ≤ 140737488355328) : Calls Tryz.prog 6 #[.agg #[.int .i64 n, .slice ao es.length ca]] W fun e w' => ∃ a c, e = .returned (.agg #[.int .i64 n, .slice a es.length c]) ∧ EdgesAt w' a es ∧ Below W.heap.size W w' := (rcopy_any n ao ca es W h.edges hl).mono (by
  rintro e w' ⟨v, rfl, h1, h2⟩
  obtain ⟨a, c, rfl, _, _, h3, _⟩ := h1.form
  exact ⟨a, c, rfl, h3, h2⟩)
end

theorem OwnZ.at {w : World} {B : Nat} {ao : Option Addr} {k c : Nat} {l : List Int} (h : OwnZ w B (.slice ao k c) l) : IntsAt w ao l := by
  obtain ⟨a, c', e, h1, _⟩ := h.form
  cases e
  exact h1
/-- The same list twice. -/
theorem same_two {ao bo : Option Addr} {ca cb k : Nat} {l : List Int} {w : World} (hk : l.length = k) (h : IntsAt w ao l) (h' : IntsAt w bo l) (hl : k ≤ 4611686018427387904) : Calls Tryz.prog 16 #[.slice ao k ca, .slice bo k cb] w fun e w' => e = .returned (.bool true) ∧ Below w.heap.size w w' := (sameints_any ao bo ca cb k k l l w hk hk h h' hl).mono (by
  rintro e w' ⟨h1, h2⟩
  exact ⟨by rw [h1]; simp, h2⟩)
end Go.Proofs.YtalfpbalekbinaaGreat

/-
  Blocks, pure: components are trees of the forest: as many as roots.
-/
namespace Go.Proofs.YtalfpbalekbinaaGreat
namespace Bl
open Df Lo

section
variable {n : Nat} {es : List (Int × Int)} {s : St} {v : Nat}

/-- r is the root above v. -/
def RootOf (n : Nat) (es : List (Int × Int)) (s : St) (v r : Nat) : Prop := r < n ∧ ¬ hangs es s r ∧ Anc es s r v

theorem root_ex (hv : Si.Val n es) (h : VF n es s) : ∀ (d : Nat) (v : Nat), v < n → at_ s.hei v ≤ (d : Int) → ∃ r, RootOf n es s v r := by
  have hr := rooted_of hv h.once h.hang h.side
  intro d
  induction d with
  | zero =>
    intro v hvn hd
    refine ⟨v, hvn, fun ⟨p, hp, tp, gp⟩ => ?_, anc_self h hvn⟩
    have h1 := (tree_up hv h hp tp).2
    have h2 := hr _ (ends_lt hv h hp).1
    unfold Lo.ht hf at h1
    rw [gp] at h1
    omega
  | succ d ih =>
    intro v hvn hd
    by_cases hg : hangs es s v
    · obtain ⟨p, hp, tp, gp⟩ := hg
      have h1 := (tree_up hv h hp tp).2
      unfold Lo.ht hf at h1
      rw [gp] at h1
      obtain ⟨r, h2, h3, h4⟩ := ih _ (ends_lt hv h hp).1 (by omega)
      have h5 := child_anc hv h hp tp
      rw [gp] at h5
      exact ⟨r, h2, h3, anc_trans h4 h5⟩
    · exact ⟨v, hvn, hg, anc_self h hvn⟩

/-- Above a root there is no one else. -/
theorem root_top (hv : Si.Val n es) (h : VF n es s) {a r : Nat} (hr : r < n) (hg : ¬ hangs es s r) (ha : Anc es s a r) : a = r := by
  by_cases e : a = r
  · exact e
  · exfalso
    rcases (h.hang r hr).cases hv with ⟨_, h1, _⟩ | ⟨u, hun, hup, _, _⟩
    · obtain ⟨Y, hw, _, hrr⟩ := way_up h hr
      have hm := (Anc.iff hw).1 ha
      have h2 := hw.2.1
      cases Y with
      | nil =>
        have : (a : Int) = (r : Int) := by simpa using hm
        omega
      | cons y Y =>
        have : y = -1 := by
          rw [h1] at h2
          simpa using h2.symm
        obtain ⟨z, _, hz⟩ := hrr y (by simp)
        omega
    · obtain ⟨p, hp, tp, gp, _⟩ := hang_edge h hr hup (by omega)
      exact hg ⟨p, hp, tp, gp⟩

theorem root_one (hv : Si.Val n es) (h : VF n es s) {v r r' : Nat} (hvn : v < n) (h1 : RootOf n es s v r) (h2 : RootOf n es s v r') : r = r' := by
  obtain ⟨a1, a2, a3⟩ := h1
  obtain ⟨b1, b2, b3⟩ := h2
  by_cases hle : at_ s.hei r ≤ at_ s.hei r'
  · exact root_top hv h b1 b2 (anc_cmp hv h hvn a1 a3 b3 hle)
  · exact (root_top hv h a1 a2 (anc_cmp hv h hvn b1 b3 a3 (by omega))).symm

open Classical in
noncomputable def rt (n : Nat) (es : List (Int × Int)) (s : St) (v : Nat) : Nat := if hx : ∃ r, RootOf n es s v r then Classical.choose hx else 0
open Classical in
theorem rt_of (hv : Si.Val n es) (h : VF n es s) (hvn : v < n) : RootOf n es s v (rt n es s v) := by
  have hex := root_ex hv h n v hvn (by have := (rooted_of hv h.once h.hang h.side v hvn).2.1; omega)
  unfold rt
  rw [dif_pos hex]
  exact Classical.choose_spec hex

theorem rt_anc (hv : Si.Val n es) (h : VF n es s) {a b : Nat} (ha : a < n) (hb : b < n) (hab : Anc es s a b) : rt n es s a = rt n es s b := by
  obtain ⟨r1, r2, r3⟩ := rt_of hv h ha
  exact root_one hv h hb ⟨r1, r2, anc_trans r3 hab⟩ (rt_of hv h hb)

/-- Along every edge the root is one. -/
theorem rt_edge (hv : Si.Val n es) (h : VF n es s) {k : Nat} (hk : k < es.length) : rt n es s (fr es s k) = rt n es s (go_ es s k) := by
  obtain ⟨h1, h2⟩ := ends_lt hv h hk
  cases tk : tree es s k with
  | true => exact rt_anc hv h h1 h2 (child_anc hv h hk tk)
  | false => exact (rt_anc hv h h2 h1 (back_anc h hk tk)).symm

/-- A function that is one along edges, by the edges as they are walked. -/
theorem meets_iff (h : VF n es s) (hv : Si.Val n es) {f : Nat → Nat} : Co.Meets n es f ↔ ∀ k, k < es.length → f (fr es s k) = f (go_ es s k) := by
  have hends : ∀ k, k < es.length → ∀ p, es[k]? = some p → eU es k = p.1.toNat ∧ eV es k = p.2.toNat := fun k hk p hp => by
    unfold eU eV Cs.fr Cs.to
    have e1 : 2 * k % 2 = 0 := by omega
    have e2 : 2 * k / 2 = k := by omega
    rw [if_pos e1, if_pos e1, e2, List.getD_eq_getElem?_getD, hp]
    exact ⟨rfl, rfl⟩
  constructor
  · intro hm k hk
    obtain ⟨p, hp⟩ : ∃ p, es[k]? = some p := ⟨_, List.getElem?_eq_getElem hk⟩
    have hok := hv.each k p hp
    unfold Si.ok at hok
    have := hm p (List.mem_of_getElem? hp) ⟨by omega, by omega⟩ ⟨by omega, by omega⟩
    obtain ⟨e1, e2⟩ := hends k hk p hp
    rw [← e1, ← e2] at this
    rcases ends_two h hk with ⟨a, b⟩ | ⟨a, b⟩
    · rw [a, b]; exact this
    · rw [a, b]; exact this.symm
  · intro hall p hp _ _
    obtain ⟨k, hk⟩ := List.getElem?_of_mem hp
    have hkl := (List.getElem?_eq_some_iff.1 hk).1
    obtain ⟨e1, e2⟩ := hends k hkl p hk
    rw [← e1, ← e2]
    have := hall k hkl
    rcases ends_two h hkl with ⟨a, b⟩ | ⟨a, b⟩
    · rw [a, b] at this; exact this
    · rw [a, b] at this; exact this.symm

/-- What is one along edges is one from a vertex to its root. -/
theorem one_root (hv : Si.Val n es) (h : VF n es s) {f : Nat → Nat} (hf' : ∀ k, k < es.length → f (fr es s k) = f (go_ es s k)) : ∀ (d : Nat) (v : Nat), v < n → at_ s.hei v ≤ (d : Int) → f (rt n es s v) = f v := by
  intro d
  induction d with
  | zero =>
    intro v hvn hd
    have hg : ¬ hangs es s v := fun ⟨p, hp, tp, gp⟩ => by
      have h1 := (tree_up hv h hp tp).2
      have h2 := rooted_of hv h.once h.hang h.side _ (ends_lt hv h hp).1
      unfold Lo.ht hf at h1
      rw [gp] at h1
      omega
    rw [root_one hv h hvn (rt_of hv h hvn) ⟨hvn, hg, anc_self h hvn⟩]
  | succ d ih =>
    intro v hvn hd
    by_cases hg : hangs es s v
    · obtain ⟨p, hp, tp, gp⟩ := hg
      have h1 := (tree_up hv h hp tp).2
      unfold Lo.ht hf at h1
      rw [gp] at h1
      have h2 := ih _ (ends_lt hv h hp).1 (by omega)
      have h3 := rt_edge hv h hp
      have h4 := hf' p hp
      rw [gp] at h3 h4
      rw [← h3, h2, h4]
    · rw [root_one hv h hvn (rt_of hv h hvn) ⟨hvn, hg, anc_self h hvn⟩]

/-- As many components as roots. -/
theorem comps_roots (hv : Si.Val n es) (h : VF n es s) {m : Nat → Nat} (hm : Co.Gen n es m) : cnt (fun a => m a = a) n = cnt (fun v => ¬ hangs es s v) n := by
  have hr := rooted_of hv h.once h.hang h.side
  have h1 : ∀ v, v < n → m (rt n es s v) = m v := fun v hvn => one_root hv h ((meets_iff h hv).1 hm.meets) n v hvn (by have := (hr v hvn).2.1; omega)
  have h2 : ∀ v, v < n → rt n es s (m v) = rt n es s v := fun v hvn => hm.least _ ((meets_iff h hv).2 (fun k hk => rt_edge hv h hk)) v hvn
  refine Nat.le_antisymm (cnt_inj (f := rt n es s) (fun a ha _ => ⟨(rt_of hv h ha).1, (rt_of hv h ha).2.1⟩) (fun a b ha hb pa pb e => ?_)) (cnt_inj (f := m) (fun r hrn hg => ⟨?_, ?_⟩) (fun a b ha hb pa pb e => ?_))
  · have pa : m a = a := pa
    have pb : m b = b := pb
    rw [← pa, ← pb, ← h1 a ha, ← h1 b hb, e]
  · have := hm.norm.le r hrn
    omega
  · exact hm.norm.idem r hrn
  · have q : ∀ r, r < n → ¬ hangs es s r → rt n es s r = r := fun r hrn hg => root_one hv h hrn (rt_of hv h hrn) ⟨hrn, hg, anc_self h hrn⟩
    rw [← q a ha pa, ← q b hb pb, ← h2 a ha, ← h2 b hb, e]
end
end Bl
end Go.Proofs.YtalfpbalekbinaaGreat

/-
  Blocks, pure: blocks by their numbers and by their heads.
-/
namespace Go.Proofs.YtalfpbalekbinaaGreat
namespace Bl
open Df Lo

theorem cntTo_cnt (p : Nat → Bool) (n : Nat) : Co.cntTo p n = cnt (fun i => p i = true) n := by
  classical
  rw [← filter_len]
  unfold cnt
  congr 1
  exact List.filter_congr fun a _ => by simp

section
variable {n : Nat} {es : List (Int × Int)} {s : St} {v : Nat}

theorem no9_iff {e i : Nat} (he : e < es.length) (hi : i < es.length) : no9 es e = no9 es i ↔ m9 es e = m9 es i := by
  constructor
  · intro h
    have h1 := filter_get (fun i => decide (m9 es i = i)) (m9_mem he).1 (by simpa using m9_norm.idem e he)
    have h2 := filter_get (fun i => decide (m9 es i = i)) (m9_mem hi).1 (by simpa using m9_norm.idem i hi)
    unfold no9 numB at h
    rw [cntB_eq, cntB_eq] at h
    rw [h, h2] at h1
    exact (Option.some.inj h1).symm
  · intro h
    unfold no9 numB
    rw [h]
theorem no9_hdf (hv : Si.Val n es) (h : VF n es s) {e i : Nat} (he : e < es.length) (hi : i < es.length) : no9 es e = no9 es i ↔ hdf es s e = hdf es s i := by
  rw [no9_iff he hi, ← m9_mB hv h he, ← m9_mB hv h hi, mB_iff hi he]
theorem no9_lt {e : Nat} (he : e < es.length) : no9 es e < ct9 es := by
  have h1 := (m9_mem he).1
  have h2 := filter_get (fun i => decide (m9 es i = i)) h1 (by simpa using m9_norm.idem e he)
  have h3 := (List.getElem?_eq_some_iff.1 h2).1
  rw [filter_len] at h3
  exact h3
theorem head_hdf (hv : Si.Val n es) (h : VF n es s) {e : Nat} (he : e < es.length) (hh : head es s e) : hdf es s e = e := hdf_eq hv h (.self he hh)

/-- An edge ends at v, by the graph and by the forest. -/
theorem at_end (hv : Si.Val n es) (h : VF n es s) {i : Nat} {p : Int × Int} (hp : es[i]? = some p) : (p.1 = (v : Int) ∨ p.2 = (v : Int)) ↔ endAt es s i v := by
  obtain ⟨p1, p2, _⟩ := ends_at hv hp
  rw [← endG_iff h (List.getElem?_eq_some_iff.1 hp).1]
  unfold endG
  omega
open Classical in
theorem hit_end (hv : Si.Val n es) (h : VF n es s) {f : Nat → Nat} {k : Nat} : hitB es f (v : Int) k es.length = true ↔ ∃ i, i < es.length ∧ f i = k ∧ endAt es s i v := by
  unfold hitB
  rw [decide_eq_true_iff]
  constructor
  · rintro ⟨i, p, h1, h2, h3, h4⟩
    exact ⟨i, h1, h3, (at_end hv h h2).1 h4⟩
  · rintro ⟨i, h1, h3, h4⟩
    obtain ⟨p, hp⟩ := edge_of h1
    exact ⟨i, p, h1, hp, h3, (at_end hv h hp).2 h4⟩
open Classical in
/-- How many blocks a vertex is in, by their numbers and by their heads. -/
theorem in_heads (hv : Si.Val n es) (h : VF n es s) : inB es (no9 es) (v : Int) (ct9 es) = inH es s v := by
  unfold inB inH
  rw [cntTo_cnt]
  refine Nat.le_antisymm ?_ ?_
  · let g : Nat → Nat := fun k => if hx : ∃ i, i < es.length ∧ no9 es i = k ∧ endAt es s i v then hdf es s (Classical.choose hx) else 0
    have hg : ∀ k, hitB es (no9 es) (v : Int) k es.length = true → ∃ i, i < es.length ∧ no9 es i = k ∧ endAt es s i v ∧ g k = hdf es s i := fun k hk => by
      have hx := (hit_end hv h).1 hk
      refine ⟨Classical.choose hx, (Classical.choose_spec hx).1, (Classical.choose_spec hx).2.1, (Classical.choose_spec hx).2.2, ?_⟩
      show (if hx : ∃ i, i < es.length ∧ no9 es i = k ∧ endAt es s i v then hdf es s (Classical.choose hx) else 0) = _
      rw [dif_pos hx]
    refine cnt_inj (f := g) (fun k _ hk => ?_) (fun a b _ _ ha hb e => ?_)
    · obtain ⟨i, h1, h2, h3, h4⟩ := hg k hk
      have hd := hdf_of hv h h1
      rw [h4]
      exact ⟨hd.lt.2.1, i, h1, h3, hd⟩
    · obtain ⟨i, h1, h2, h3, h4⟩ := hg a ha
      obtain ⟨j, k1, k2, k3, k4⟩ := hg b hb
      rw [← h2, ← k2]
      exact (no9_hdf hv h h1 k1).2 (by rw [← h4, ← k4, e])
  · refine cnt_inj (f := no9 es) (fun e he ⟨i, h1, h2, h3⟩ => ⟨no9_lt he, ?_⟩) (fun a b ha hb ⟨i, h1, h2, h3⟩ ⟨j, k1, k2, k3⟩ e => ?_)
    · refine (hit_end hv h).2 ⟨i, h1, ?_, h2⟩
      rw [no9_hdf hv h h1 he, hdf_eq hv h h3, head_hdf hv h he h3.lt.2.2]
    · rw [← head_hdf hv h ha h3.lt.2.2, ← head_hdf hv h hb k3.lt.2.2]
      exact (no9_hdf hv h ha hb).1 e
/-- As many heads as blocks. -/
theorem heads_ct (hv : Si.Val n es) (h : VF n es s) : cnt (fun e => head es s e) es.length = ct9 es := by
  unfold ct9
  rw [cntB_eq, cntTo_cnt]
  refine Nat.le_antisymm ?_ ?_
  · refine cnt_inj (f := m9 es) (fun e he hh => ⟨(m9_mem he).1, by simpa using m9_norm.idem e he⟩) (fun a b ha hb h1 h2 e => ?_)
    rw [← head_hdf hv h ha h1, ← head_hdf hv h hb h2]
    exact (no9_hdf hv h ha hb).1 ((no9_iff ha hb).2 e)
  · refine cnt_inj (f := hdf es s) (fun e he hh => ⟨(hdf_of hv h he).lt.2.1, (hdf_of hv h he).lt.2.2⟩) (fun a b ha hb h1 h2 e => ?_)
    have h1 : m9 es a = a := by simpa using h1
    have h2 : m9 es b = b := by simpa using h2
    rw [← h1, ← h2]
    exact (no9_iff ha hb).1 ((no9_hdf hv h ha hb).2 e)
end
end Bl
end Go.Proofs.YtalfpbalekbinaaGreat

/-
  Blocks, pure: within a block alone the steps from an edge up to its head can be gone.
-/
namespace Go.Proofs.YtalfpbalekbinaaGreat
namespace Bl
open Df Lo

/-- No edge of the block with head c that does not end at v leads out of S, or in. -/
def ShutC (es : List (Int × Int)) (s : St) (c v : Nat) (S : Nat → Prop) : Prop := ∀ k, HD es s k c → fr es s k ≠ v → go_ es s k ≠ v → (S (fr es s k) ↔ S (go_ es s k))

section
variable {n : Nat} {es : List (Int × Int)} {s : St} {v c : Nat}

theorem way_connC (h : VF n es s) {S : Nat → Prop} (hS : ShutC es s c v S) {a : Nat} (hav : a ≠ v) : ∀ (X : List Int) (Y : List Int) (u : Nat), (∀ x ∈ (u : Int) :: X, ∃ z : Nat, z < n ∧ x = (z : Int)) → IsWay es s ((u : Int) :: X ++ (a : Int) :: Y) → (∀ x ∈ (u : Int) :: X, x ≠ (v : Int)) → (∀ t, t < es.length → tree es s t = true → (go_ es s t : Int) ∈ (u : Int) :: X → HD es s t c) → (S u ↔ S a)
  | [], Y, u, hr, hw, hne, hC => by
    obtain ⟨z, hz, hzu⟩ := hr u List.mem_cons_self
    have hup : Df.up es s u = (a : Int) := hw.2.1
    obtain ⟨k, hk, htk, hgk, hfk⟩ := hang_edge h (x := u) (by omega) hup (by omega)
    have huv := hne u List.mem_cons_self
    have := hS k (hC k hk htk (by rw [hgk]; exact List.mem_cons_self)) (by omega) (by omega)
    rw [hgk, show fr es s k = a by omega] at this
    exact this.symm
  | y :: X, Y, u, hr, hw, hne, hC => by
    obtain ⟨z, hz, hzu⟩ := hr u List.mem_cons_self
    obtain ⟨q, hq, rfl⟩ := hr y (List.mem_cons_of_mem _ List.mem_cons_self)
    have hup : Df.up es s u = (q : Int) := hw.2.1
    obtain ⟨k, hk, htk, hgk, hfk⟩ := hang_edge h (x := u) (by omega) hup (by omega)
    have huv := hne u List.mem_cons_self
    have hqv := hne q (List.mem_cons_of_mem _ List.mem_cons_self)
    have h1 := hS k (hC k hk htk (by rw [hgk]; exact List.mem_cons_self)) (by omega) (by omega)
    rw [hgk, show fr es s k = q by omega] at h1
    have h2 := way_connC h hS hav X Y q (fun x hx => hr x (List.mem_cons_of_mem _ hx)) hw.2.2 (fun x hx => hne x (List.mem_cons_of_mem _ hx)) (fun t h1 h2 h3 => hC t h1 h2 (List.mem_cons_of_mem _ h3))
    exact h1.symm.trans h2

/-- From u up to a vertex above it, if v does not stand between and the edges between are of the block. -/
theorem up_connC (h : VF n es s) {S : Nat → Prop} (hS : ShutC es s c v S) {a u : Nat} (hu : u < n) (ha : Anc es s a u) (hne : ∀ x : Nat, Anc es s a x → Anc es s x u → x ≠ v) (hC : ∀ t, t < es.length → tree es s t = true → Anc es s (go_ es s t) u → Anc es s a (go_ es s t) → go_ es s t ≠ a → HD es s t c) : S u ↔ S a := by
  obtain ⟨Y, hw, hnd, hr⟩ := way_up h hu
  have hm := (Anc.iff hw).1 ha
  obtain ⟨X, Z, hXZ⟩ := List.append_of_mem hm
  have haa : Anc es s a a := by
    have hw2 := hw
    rw [hXZ] at hw2
    exact ⟨Z, hw2.tail, by simp⟩
  have hav : a ≠ v := hne a haa ha
  cases X with
  | nil =>
    have : (u : Int) = (a : Int) := by
      simp at hXZ
      omega
    rw [show u = a by omega]
  | cons x0 X =>
    have hx0 : x0 = (u : Int) := by
      simp at hXZ
      exact hXZ.1.symm
    subst hx0
    have hw2 := hw
    rw [hXZ] at hw2
    have hb : ∀ x : Int, x ∈ (u : Int) :: X → ∀ q : Nat, x = (q : Int) → Anc es s a q ∧ Anc es s q u ∧ q ≠ a := fun x hx q e1 => by
      obtain ⟨X1, X2, hX12⟩ := List.append_of_mem hx
      have hway : IsWay es s (x :: (X2 ++ (a : Int) :: Z)) := by
        have hw3 := hw2
        rw [hX12, List.append_assoc] at hw3
        exact hw3.tail
      rw [e1] at hway
      refine ⟨⟨_, hway, by simp⟩, ⟨Y, hw, by rw [hXZ, ← e1]; exact List.mem_append_left _ hx⟩, fun e2 => ?_⟩
      rw [hXZ, List.nodup_append] at hnd
      exact hnd.2.2 x hx (a : Int) List.mem_cons_self (by rw [e1, e2])
    refine way_connC h hS hav X Z u (fun x hx => hr x (by rw [hXZ]; exact List.mem_append_left _ hx)) hw2 (fun x hx e1 => ?_) (fun t h1 h2 h3 => ?_)
    · obtain ⟨h4, h5, _⟩ := hb x hx v e1
      exact hne v h4 h5 rfl
    · obtain ⟨h4, h5, h6⟩ := hb _ h3 _ rfl
      exact hC t h1 h2 h5 h4 h6

/-- The tree edges between an edge that returns and where it returns to are of its block. -/
theorem ret_block (hv : Si.Val n es) (h : VF n es s) {b : Nat} (hb : b < es.length) (tb : tree es s b = false) (hd : HD es s b c) : ∀ (d t : Nat), t < es.length → tree es s t = true → Anc es s (go_ es s t) (fr es s b) → Anc es s (go_ es s b) (go_ es s t) → go_ es s t ≠ go_ es s b → at_ s.hei (fr es s b) ≤ at_ s.hei (go_ es s t) + (d : Int) → HD es s t c := by
  intro d
  induction d with
  | zero =>
    intro t ht tt ha hab hne hle
    obtain ⟨hbf, hbg⟩ := ends_lt hv h hb
    obtain ⟨htf, htg⟩ := ends_lt hv h ht
    by_cases e : go_ es s t = fr es s b
    · cases hd with
      | self _ hh => exact absurd (tb.symm.trans hh.1) (by decide)
      | up _ _ hp tp gp h3 => rw [tree_one h ht hp tt tp (e.trans gp.symm)]; exact h3
    · have := anc_height hv h.once h.hang h.side hbf e ha
      omega
  | succ d ih =>
    intro t ht tt ha hab hne hle
    obtain ⟨hbf, hbg⟩ := ends_lt hv h hb
    obtain ⟨htf, htg⟩ := ends_lt hv h ht
    by_cases e : go_ es s t = fr es s b
    · cases hd with
      | self _ hh => exact absurd (tb.symm.trans hh.1) (by decide)
      | up _ _ hp tp gp h3 => rw [tree_one h ht hp tt tp (e.trans gp.symm)]; exact h3
    · obtain ⟨t', ht', tt', hf', ha'⟩ := child_of h hbf ha e
      have hup := (tree_up hv h ht' tt').2
      have hh1 := anc_height hv h.once h.hang h.side htg (fun e => hne e.symm) hab
      have e1 : Lo.ht es s t' = at_ s.hei (go_ es s t') := rfl
      have e2 : hf es s t' = at_ s.hei (go_ es s t) := by unfold hf; rw [hf']
      have e3 : Lo.ht es s b = at_ s.hei (go_ es s b) := rfl
      have hlow := low_le_ht tt' hb tb ha'
      have h4 := ih t' ht' tt' ha' (anc_trans hab (by rw [← hf']; exact child_anc hv h ht' tt')) (fun e => by rw [e] at e1; omega) (by omega)
      cases h4 with
      | self _ hh => exact absurd hh.2 (by omega)
      | up _ _ hp tp gp h5 => rw [tree_one h ht hp tt tp (hf'.symm.trans gp.symm)]; exact h5

/-- An edge of a block that is no head, and the edge by which its beginning hangs: on one cycle of the block. -/
theorem up_pairC (hv : Si.Val n es) (h : VF n es s) {k p : Nat} (hk : k < es.length) (hn : ¬ head es s k) (hkc : HD es s k c) (hp : p < es.length) (tp : tree es s p = true) (gp : go_ es s p = fr es s k) {S : Nat → Prop} (hS : ShutC es s c (fr es s k) S) : S (go_ es s k) ↔ S (fr es s p) := by
  obtain ⟨hkf, hkg⟩ := ends_lt hv h hk
  obtain ⟨hpf, hpg⟩ := ends_lt hv h hp
  have hnb := not_below hv h hp tp
  rw [gp] at hnb
  have hcp := child_anc hv h hp tp
  rw [gp] at hcp
  have hpar : ∀ a : Nat, Anc es s a (fr es s k) → a ≠ fr es s k → Anc es s a (fr es s p) := fun a ha hne => anc_parent hv h hp tp (by rw [gp]; exact ha) (by rw [gp]; exact hne)
  -- with an edge b of the block that returns from at or below the beginning of k to above it
  have hup : ∀ b, b < es.length → tree es s b = false → HD es s b c → Anc es s (fr es s k) (fr es s b) → Anc es s (go_ es s b) (fr es s k) → go_ es s b ≠ fr es s k → (S (fr es s p) ↔ S (go_ es s b)) := fun b hb tb hbc h1 h2 h3 => by
    obtain ⟨hbf, hbg⟩ := ends_lt hv h hb
    refine up_connC h hS hpf (hpar _ h2 h3) (fun x _ hx e => hnb (by rw [← e]; exact hx)) (fun t ht tt h4 h5 h6 => ?_)
    have hd := (rooted_of hv h.once h.hang h.side _ hbf).2.1
    have hd2 := (rooted_of hv h.once h.hang h.side _ (ends_lt hv h ht).2).1
    exact ret_block hv h hb tb hbc n t ht tt (anc_trans (anc_trans h4 hcp) h1) h5 h6 (by omega)
  cases tk : tree es s k with
  | false =>
    exact (hup k hk tk hkc (anc_self h hkf) (back_anc h hk tk) (ends_ne hv h hk)).symm
  | true =>
    have hlow : low es s k < hf es s k := by
      by_cases hl : hf es s k ≤ low es s k
      · exact absurd ⟨tk, hl⟩ hn
      · omega
    rcases least_mem (hf es s k) (hs es s k) with h2 | h2
    · have h3 : low es s k = hf es s k := h2
      omega
    · obtain ⟨b, hb, hb2⟩ := List.mem_map.1 h2
      have hb3 : Lo.ht es s b = low es s k := hb2
      obtain ⟨b1, b2, b3, b4⟩ := (mem_rets_tree tk).1 hb
      obtain ⟨hbf, hbg⟩ := ends_lt hv h b1
      have hkh := (tree_up hv h hk tk).2
      have hnk := not_below hv h hk tk
      have hne : ∀ x : Nat, Anc es s (go_ es s k) x → x ≠ fr es s k := fun x hx e => hnk (by rw [← e]; exact hx)
      have hbgv : go_ es s b ≠ fr es s k := fun e => by
        have : Lo.ht es s b = hf es s k := by unfold Lo.ht hf; rw [e]
        omega
      have hbb := back_anc h b1 b2
      have hkb : Anc es s (fr es s k) (fr es s b) := anc_trans (child_anc hv h hk tk) b4
      have hab : Anc es s (go_ es s b) (fr es s k) := anc_cmp hv h hbf hbg hbb hkb (by unfold Lo.ht hf at b3; omega)
      have habk : Anc es s (go_ es s b) (go_ es s k) := anc_trans hab (child_anc hv h hk tk)
      have hd := (rooted_of hv h.once h.hang h.side _ hbf).2.1
      have e1 : Lo.ht es s b = at_ s.hei (go_ es s b) := rfl
      have e2 : Lo.ht es s k = at_ s.hei (go_ es s k) := rfl
      -- b is of the block
      have hbc : HD es s b c := by
        have h5 := hdf_of hv h b1
        have h6 := ret_block hv h b1 b2 h5 n k hk tk b4 habk (fun e => by rw [e] at e2; omega) (by have := (rooted_of hv h.once h.hang h.side _ hkg).1; omega)
        rw [hkc.unique h h6]
        exact h5
      have h4 : S (fr es s b) ↔ S (go_ es s k) := up_connC h hS hbf b4 (fun x hx _ => hne x hx) (fun t ht tt h5 h6 h7 => by
        have hth := anc_height hv h.once h.hang h.side (ends_lt hv h ht).2 (fun e => h7 e.symm) h6
        exact ret_block hv h b1 b2 hbc n t ht tt h5 (anc_trans habk h6) (fun e => by rw [e] at hth; omega) (by have := (rooted_of hv h.once h.hang h.side _ (ends_lt hv h ht).2).1; omega))
      have h5 := hS b hbc (hne _ b4) hbgv
      exact h4.symm.trans (h5.trans (hup b b1 b2 hbc hkb hab hbgv).symm)
end
end Bl
end Go.Proofs.YtalfpbalekbinaaGreat
