import Derived.Test.YtalfpbalekbinaaGreatMg09
import Derived.Test.YtalfpbalekbinaaGreatMg00
import Derived.Deep.QuietTactic
import Derived.BigQuiet
import Derived.RangeFuncNested
import Derived.RangeFuncBound
import Derived.RangeFuncCalls
import Derived.RangeFuncLeaves
import Derived.RangeFuncBox
import Derived.Shelf.Abstract
import Derived.Shelf.RegionOpen
import Derived.OwnWalkIn
import Derived.TacticsInMore
import Derived.LoopNIn
import Derived.LoopIn
import Derived.Maps.AppendAt
/-
  Blocks, pure: the finder goes by the order of the walk: what is left and what is laid at a vertex.
-/
namespace Go.Proofs.YtalfpbalekbinaaGreat
namespace Bl
open Df Lo

section
variable {n : Nat} {es : List (Int × Int)} {s : St}

/-- Who is above whom, by places. -/
theorem anc_ord (h : VF n es s) : ∃ E : Nat → Int, ∀ a j, a < n → j < n → (Anc es s (at_ s.ord a) (at_ s.ord j) ↔ a ≤ j ∧ (j : Int) < E a) := by
  obtain ⟨⟨W, B⟩, hs⟩ := h.side
  refine ⟨fun a => at_ (ends n W B) (at_ s.ord a).toNat, fun a j ha hj => ?_⟩
  have hend := side_end (es := es) h.once hs ha hj
  obtain ⟨_, ⟨Y, hY⟩, hw, _, _⟩ := (side_inv h.once n (Nat.le_refl _) W B hs).hist j hj
  rw [hY] at hw hend
  rw [Anc.iff hw]
  exact hend

/-- v is one of the first j. -/
def En (s : St) (j v : Nat) : Prop := ∃ a, a < j ∧ at_ s.ord a = (v : Int)
/-- The vertex number j. -/
def vtx (s : St) (j : Nat) : Nat := (at_ s.ord j).toNat
theorem vtx_eq (h : VF n es s) {j : Nat} (hj : j < n) : at_ s.ord j = (vtx s j : Int) ∧ vtx s j < n := by
  have := (h.once j hj).1
  unfold vtx
  omega
theorem en_not (h : VF n es s) {j : Nat} (hj : j < n) : ¬ En s j (vtx s j) := fun ⟨a, ha, e⟩ => by
  have := h.once.ne (a := a) (b := j) (by omega) hj (by omega)
  rw [(vtx_eq h hj).1] at this
  exact this e
theorem en_succ (h : VF n es s) {j v : Nat} (hj : j < n) : En s (j + 1) v ↔ En s j v ∨ v = vtx s j := by
  constructor
  · rintro ⟨a, ha, e⟩
    by_cases hja : a = j
    · subst hja
      have := (vtx_eq h hj).1
      exact .inr (by omega)
    · exact .inl ⟨a, by omega, e⟩
  · rintro (⟨a, ha, e⟩ | rfl)
    · exact ⟨a, by omega, e⟩
    · exact ⟨j, by omega, (vtx_eq h hj).1⟩
theorem en_all (h : VF n es s) {v : Nat} (hv : v < n) : En s n v := h.once.onto hv
theorem en_zero (v : Nat) : ¬ En s 0 v := fun ⟨a, ha, _⟩ => by omega

/-- Nothing below the vertex number j has come. -/
theorem below_late (h : VF n es s) {j y : Nat} (hj : j < n) (ha : Anc es s (vtx s j) y) : ¬ En s j y := fun ⟨a, haj, e⟩ => by
  obtain ⟨E, hE⟩ := anc_ord h
  rw [← (vtx_eq h hj).1, ← e] at ha
  have := (hE j a hj (by omega)).1 ha
  omega

/-- Where the finder stands when j vertices have come. -/
structure Pos (es : List (Int × Int)) (s : St) (j : Nat) (T : List Nat) : Prop where
  none : j = 0 → T = []
  anc : ∀ t ∈ T, ∃ i, j = i + 1 ∧ Anc es s (go_ es s t) (vtx s i)
  len : ∀ i, j = i + 1 → (T.length : Int) = at_ s.hei (vtx s i)

/-- What is left ahead of the vertex number j. -/
def dep (s : St) (j : Nat) : Nat := (at_ s.hei (vtx s j) - 1).toNat

theorem Pos.deep (hv : Si.Val n es) (h : VF n es s) {j : Nat} {T : List Nat} (hj : j < n) (p : Pos es s j T) : dep s j ≤ T.length := by
  obtain ⟨e0, hvn⟩ := vtx_eq h hj
  have hr := rooted_of hv h.once h.hang h.side
  cases j with
  | zero =>
    -- the first one is a root
    have h0 : at_ s.hei (vtx s 0) = 0 := by
      rcases (h.hang _ hvn).cases hv with ⟨_, _, h3⟩ | ⟨u, hun, hup, _, _⟩
      · exact h3
      · exfalso
        obtain ⟨k, hk, tk, gk, fk⟩ := hang_edge h hvn hup (by omega)
        have ha := child_anc hv h hk tk
        obtain ⟨a, han, ea⟩ := h.once.onto (ends_lt hv h hk).1
        obtain ⟨E, hE⟩ := anc_ord h
        rw [gk, ← e0, ← ea] at ha
        have := (hE a 0 han hj).1 ha
        obtain rfl : a = 0 := by omega
        rw [e0] at ea
        have := ends_ne hv h hk
        rw [gk] at this
        omega
    unfold dep
    omega
  | succ i =>
    have hl := p.len i rfl
    unfold dep
    rcases (h.hang _ hvn).cases hv with ⟨_, _, h3⟩ | ⟨u, hun, hup, _, _⟩
    · omega
    · obtain ⟨k, hk, tk, gk, fk⟩ := hang_edge h hvn hup (by omega)
      have ha := child_anc hv h hk tk
      have hh := (tree_up hv h hk tk).2
      unfold Lo.ht hf at hh
      rw [gk] at ha hh
      obtain ⟨a, han, ea⟩ := h.once.onto (ends_lt hv h hk).1
      obtain ⟨E, hE⟩ := anc_ord h
      obtain ⟨ei, hin⟩ := vtx_eq h (j := i) (by omega)
      have hne : a ≠ i + 1 := fun e => by
        rw [e, e0] at ea
        have := ends_ne hv h hk
        rw [gk] at this
        omega
      have h1 := (hE a (i + 1) han hj).1 (by rw [e0, ea]; exact ha)
      have h2 := (hE a i han (by omega)).2 ⟨by omega, by omega⟩
      rw [ei, ea] at h2
      by_cases e : fr es s k = vtx s i
      · rw [e] at hh
        omega
      · have := anc_height hv h.once h.hang h.side hin e h2
        omega

/-- All below a tree edge that is left has come. -/
theorem Pos.whole (hv : Si.Val n es) (h : VF n es s) {j : Nat} {T : List Nat} (hj : j < n) (p : Pos es s j T) (P : Path es s T) {T1 r : List Nat} {t : Nat} (hT : T = T1 ++ t :: r) (hd : dep s j ≤ T1.length) {y : Nat} (hy : y < n) (ha : Anc es s (go_ es s t) y) : En s j y := by
  have htm : t ∈ T := by rw [hT]; simp
  obtain ⟨i, rfl, hai⟩ := p.anc t htm
  obtain ⟨e0, hvn⟩ := vtx_eq h hj
  obtain ⟨ei, hin⟩ := vtx_eq h (j := i) (by omega)
  obtain ⟨E, hE⟩ := anc_ord h
  have hget : T[T1.length]? = some t := by rw [hT]; simp
  have hht := P.ht hv h hget
  have htl := (P.edge _ _ hget).1
  have hgn := (ends_lt hv h htl).2
  obtain ⟨a, han, ea⟩ := h.once.onto hgn
  obtain ⟨b, hbn, eb⟩ := h.once.onto hy
  have h1 := (hE a i han (by omega)).1 (by rw [ei, ea]; exact hai)
  have h2 := (hE a b han hbn).1 (by rw [ea, eb]; exact ha)
  by_cases hb : b < i + 1
  · exact ⟨b, hb, eb⟩
  · exfalso
    have h3 := (hE a (i + 1) han hj).2 ⟨by omega, by omega⟩
    rw [ea, e0] at h3
    have hne : go_ es s t ≠ vtx s (i + 1) := fun e => by
      have h4 := h.once.ne (a := a) (b := i + 1) han hj (by omega)
      rw [ea, e0, e] at h4
      exact h4 rfl
    have := anc_height hv h.once h.hang h.side hvn hne h3
    unfold dep at hd
    omega

/-- The tree edge by which the vertex number j is reached. -/
theorem Pos.step (hv : Si.Val n es) (h : VF n es s) {j : Nat} {T : List Nat} (hj : j < n) (p : Pos es s j T) (P : Path es s T) (hp : at_ s.par (vtx s j) ≠ -1) :
    ∃ (t g : Nat), at_ s.par (vtx s j) = (g : Int) ∧ g / 2 = t ∧ t < es.length ∧ tree es s t = true ∧ go_ es s t = vtx s j ∧ hf es s t = at_ s.hei (vtx s j) - 1 ∧ hf es s t = ((T.take (dep s j)).length : Int) ∧ (∀ t', (T.take (dep s j)).getLast? = some t' → fr es s t = go_ es s t') ∧ Path es s (T.take (dep s j)) ∧ Pos es s (j + 1) (T.take (dep s j) ++ [t]) := by
  obtain ⟨e0, hvn⟩ := vtx_eq h hj
  have hdl := p.deep hv h hj
  rcases (h.hang _ hvn) with ⟨h1, _⟩ | ⟨g, g1, g2, g3, g4, g5⟩
  · exact absurd h1 hp
  have hgl : g / 2 < es.length := by omega
  have hoh : oh s (g / 2) = g := by unfold oh; rw [g4]; omega
  have hgo : go_ es s (g / 2) = vtx s j := by unfold go_; rw [hoh]; exact g3
  have htr : tree es s (g / 2) = true := (tree_iff h hgl).2 (by rw [hgo, hoh]; exact g2)
  have hh := (tree_up hv h hgl htr).2
  unfold Lo.ht at hh
  rw [hgo] at hh
  have hr := rooted_of hv h.once h.hang h.side
  have hfr := ends_lt hv h hgl
  have hf0 := (hr _ hfr.1).1
  have hfd : hf es s (g / 2) = (dep s j : Int) := by unfold dep; unfold hf at hh ⊢; omega
  have htl : (T.take (dep s j)).length = dep s j := by simp; omega
  have hPt : Path es s (T.take (dep s j)) := by
    have hg : ∀ i x, (T.take (dep s j))[i]? = some x → T[i]? = some x := fun i x hx => by
      have := (List.getElem?_eq_some_iff.1 hx).1
      rw [List.getElem?_take_of_lt (by omega)] at hx
      exact hx
    exact ⟨fun i x hx => P.edge i x (hg i x hx), fun i x y hx hy => P.next i x y (hg i x hx) (hg _ y hy)⟩
  have hlast : ∀ t', (T.take (dep s j)).getLast? = some t' → fr es s (g / 2) = go_ es s t' := fun t' ht' => by
    rw [List.getLast?_eq_getElem?, htl] at ht'
    have hlt := (List.getElem?_eq_some_iff.1 ht').1
    have h5 := hPt.ht hv h ht'
    have hm : t' ∈ T := List.mem_of_mem_take (List.mem_of_getElem? ht')
    obtain ⟨i, rfl, hai⟩ := p.anc t' hm
    obtain ⟨ei, hin⟩ := vtx_eq h (j := i) (by omega)
    -- the parent stands above the vertex that came last
    have ha := child_anc hv h hgl htr
    rw [hgo] at ha
    obtain ⟨E, hE⟩ := anc_ord h
    obtain ⟨a, han, ea⟩ := h.once.onto hfr.1
    have hne : a ≠ i + 1 := fun e => by
      rw [e, e0] at ea
      have := ends_ne hv h hgl
      rw [hgo] at this
      omega
    have h1 := (hE a (i + 1) han hj).1 (by rw [e0, ea]; exact ha)
    have h2 := (hE a i han (by omega)).2 ⟨by omega, by omega⟩
    rw [ei, ea] at h2
    have htl' := (hPt.edge _ _ ht').1
    refine anc_same hv h hin hfr.1 (ends_lt hv h htl').2 h2 hai ?_
    unfold hf at hfd
    rw [hfd, h5]
    omega
  have hPm := hPt.more hgl htr (by rw [htl]; exact hfd) hlast
  refine ⟨g / 2, g, g2, rfl, hgl, htr, hgo, by omega, by rw [htl]; exact hfd, hlast, hPt, ⟨fun e => by omega, fun t ht => ⟨j, rfl, ?_⟩, fun i hi => ?_⟩⟩
  · obtain ⟨i, hi⟩ := List.getElem?_of_mem ht
    have hil := (List.getElem?_eq_some_iff.1 hi).1
    simp only [List.length_append, List.length_singleton] at hil
    have := hPm.anc hv h hi ((T.take (dep s j)).length - i) (g / 2) (by rw [show i + ((T.take (dep s j)).length - i) = (T.take (dep s j)).length by omega]; exact last_at _ _)
    rw [hgo] at this
    exact this
  · obtain rfl : i = j := by omega
    rw [List.length_append, htl, List.length_singleton]
    omega

/-- At a root nothing is laid. -/
theorem Pos.root (hv : Si.Val n es) (h : VF n es s) {j : Nat} {T : List Nat} (hj : j < n) (hp : at_ s.par (vtx s j) = -1) : T.take (dep s j) = [] ∧ Pos es s (j + 1) ([] : List Nat) ∧ at_ s.hei (vtx s j) = 0 ∧ ∀ e, e < es.length → ev es s e ≠ vtx s j := by
  obtain ⟨e0, hvn⟩ := vtx_eq h hj
  have hr := rooted_of hv h.once h.hang h.side
  have h0 : at_ s.hei (vtx s j) = 0 := (hr _ hvn).2.2.2 hp
  have hd : dep s j = 0 := by unfold dep; omega
  refine ⟨by rw [hd]; rfl, ⟨fun e => by omega, fun t ht => (by cases ht), fun i hi => ?_⟩, h0, fun e he hev => ?_⟩
  · obtain rfl : i = j := by omega
    rw [h0]
    rfl
  · cases te : tree es s e with
    | true =>
      rw [ev_tree te] at hev
      have h1 := (tree_iff h he).1 te
      rw [hev, hp] at h1
      omega
    | false =>
      rw [ev_back te] at hev
      have h1 := back_up hv h he te
      have h2 := (hr _ (ends_lt hv h he).2).1
      unfold Lo.ht hf at h1
      rw [hev] at h1
      omega

/-- A half-edge by which a back edge is walked. -/
def bk (es : List (Int × Int)) (s : St) (i : Nat) : Prop := at_ s.ori (i / 2) = (i : Int) ∧ at_ s.par (Cs.to es i) ≠ (i : Int)
theorem bk_back (h : VF n es s) {i : Nat} (hi : i < 2 * es.length) (hb : bk es s i) : i / 2 < es.length ∧ tree es s (i / 2) = false ∧ fr es s (i / 2) = Cs.fr es i ∧ go_ es s (i / 2) = Cs.to es i := by
  have hil : i / 2 < es.length := by omega
  have hoh : oh s (i / 2) = i := by unfold oh; rw [hb.1]; omega
  refine ⟨hil, ?_, by unfold fr; rw [hoh], by unfold go_; rw [hoh]⟩
  cases te : tree es s (i / 2) with
  | false => rfl
  | true =>
    have := (tree_iff h hil).1 te
    unfold go_ at this
    rw [hoh] at this
    exact absurd this hb.2
theorem back_bk (h : VF n es s) {e : Nat} (he : e < es.length) (tb : tree es s e = false) : oh s e < 2 * es.length ∧ oh s e / 2 = e ∧ bk es s (oh s e) ∧ Cs.fr es (oh s e) = fr es s e := by
  obtain ⟨h1, h2, h3, h4⟩ := oh_of h he
  refine ⟨h3, h4, ⟨by rw [h4]; exact h1, fun e1 => ?_⟩, rfl⟩
  have := (tree_iff h he).2 e1
  rw [this] at tb
  cases tb
/-- The edges that are laid at the vertex number j. -/
theorem laid_succ (h : VF n es s) {j t : Nat} (hj : j < n) (ht : t < es.length) (tt : tree es s t = true) (gt : go_ es s t = vtx s j) {e : Nat} (he : e < es.length) :
    En s (j + 1) (ev es s e) ↔ (En s j (ev es s e) ∨ e = t) ∨ (tree es s e = false ∧ fr es s e = vtx s j) := by
  rw [en_succ h hj]
  constructor
  · rintro (h1 | h1)
    · exact .inl (.inl h1)
    · cases te : tree es s e with
      | true =>
        rw [ev_tree te] at h1
        exact .inl (.inr (tree_one h he ht te tt (h1.trans gt.symm)))
      | false =>
        rw [ev_back te] at h1
        exact .inr ⟨rfl, h1⟩
  · rintro ((h1 | rfl) | ⟨te, h1⟩)
    · exact .inl h1
    · exact .inr (by rw [ev_tree tt]; exact gt)
    · exact .inr (by rw [ev_back te]; exact h1)
theorem laid_root (hv : Si.Val n es) (h : VF n es s) {j : Nat} (hj : j < n) (hp : at_ s.par (vtx s j) = -1) {e : Nat} (he : e < es.length) : En s (j + 1) (ev es s e) ↔ En s j (ev es s e) := by
  rw [en_succ h hj]
  exact ⟨fun hx => hx.elim id (fun hx => absurd hx ((Pos.root (T := []) hv h hj hp).2.2.2 e he)), .inl⟩
end
end Bl
end Go.Proofs.YtalfpbalekbinaaGreat

/-
  A region that draws its order and whose operations only read, calls among them that only make memory: one walk serves every order.
-/
namespace Go.Proofs.YtalfpbalekbinaaGreat
open Go.RowKit

/-- A world in which there is w, and more. -/
structure LW (w : World) where
  val : World
  h : Below w.heap.size w val

theorem LW.any (w : World) : Nonempty (LW w) := ⟨⟨w, Below.refl _ _⟩⟩

theorem wp_region_lw {P : Program} {id : Nat} {Q : Exit → Act → World → Prop} {a : Act} {w : World} {l : List Oper} (hm : P.follows .mixedOrders = true) (hB : Region.lexB .any l.toArray = true)
    (h : wpQuiet P l.toArray (fun w' => ∃ D : LW w, w' = D.val) (fun a' => ∀ w', (∃ D : LW w, w' = D.val) → Q .normal a' w') l a) : (Code.region id l.toArray true).wp P Q a w :=
  wp_region_quiet (C := fun w' => ∃ D : LW w, w' = D.val) hm hB ⟨⟨w.drew, (Below.refl _ _).drew⟩, rfl⟩ (by simpa using h)

theorem Calls.lw {P : Program} {f : FuncId} {args : Array Value} {w : World} {D : LW w} {v : Value}
    (h : Calls P f args D.val fun e w' => e = .returned v ∧ Below D.val.heap.size D.val w') : Calls P f args D.val fun e w'' => e = .returned v ∧ ∃ D' : LW w, w'' = D'.val :=
  h.mono fun _ w' ⟨he, hb⟩ => ⟨he, ⟨w', D.h.trans (hb.mono D.h.size)⟩, rfl⟩

end Go.Proofs.YtalfpbalekbinaaGreat

/-
  A range over an iterator that itself ranges over another: what an iterator over a given list owes, and the law for the loop that goes over it.
-/
namespace Go.Proofs.YtalfpbalekbinaaGreat
open Go.RowKit Go.Shelf

/-- What lay below n₀ lies as it lay, and so do all cells but those of the blocks in S. -/
def Kep (n₀ : Nat) (S : Nat → Prop) (W W' : World) : Prop := Below n₀ W W' ∧ ∀ (b : Nat) (o : Obj), W.heap[b]? = some o → o.isCells = true → ¬ S b → W'.heap[b]? = some o

section
variable {n₀ : Nat} {S : Nat → Prop} {A B C W W' : World}

theorem Kep.refl (n₀ : Nat) (S : Nat → Prop) (W : World) : Kep n₀ S W W := ⟨Below.refl _ _, fun _ _ h _ _ => h⟩
theorem Kep.trans (h : Kep n₀ S A B) (k : Kep n₀ S B C) : Kep n₀ S A C := ⟨h.1.trans k.1, fun b o hb ho hs => k.2 b o (h.2 b o hb ho hs) ho hs⟩
theorem Kep.cell (h : Kep n₀ S W W') {a : Addr} {v : Value} (hc : W.cell? a = some v) (hs : ¬ S a.block) : W'.cell? a = some v := by
  obtain ⟨o, ho, hcl⟩ := cells_of_cell hc
  exact (World.cell?_of_block ((h.2 _ _ ho hcl hs).trans ho.symm)).trans hc
theorem Kep.boxed (h : Kep n₀ S W W') {b : Nat} {t : TypeId} {v : Value} (hb : Boxed W b t v) (hs : ¬ S b) : Boxed W' b t v := h.2 b _ hb rfl hs
theorem Kep.grow (h : Kep n₀ S A B) (hb : Below B.heap.size B C) (hn : n₀ ≤ B.heap.size) : Kep n₀ S A C := ⟨h.1.trans (hb.mono hn), fun b o hA ho hs => by
  have := h.2 b o hA ho hs
  exact (hb.block b (Array.getElem?_eq_some_iff.1 this).1).trans this⟩
theorem Kep.set (h : Kep n₀ S A B) {p : Addr} (hn : n₀ ≤ p.block) (hs : S p.block) (v : Value) : Kep n₀ S A (B.setCell p v) := ⟨h.1.setCell hn v, fun b o hA ho hb => by
  have := h.2 b o hA ho hb
  exact (Below.heap_setCell B p v b (fun e => hb (by rw [e]; exact hs))).trans this⟩
theorem Kep.put (hn : n₀ ≤ A.heap.size) {l : Nat} {o o' : Obj} (hl : A.heap.size ≤ l) (h : W.heap[l]? = some o) (h1 : o.isCells = false) (h2 : o.isWalk = false) : Kep n₀ S W (W.putObj l o') :=
  ⟨belowK_b (w := A) hn W l o o' hl h h1 h2, fun b o2 hb ho _ => by
    have : b ≠ l := fun e => by subst e; rw [h] at hb; cases hb; rw [h1] at ho; cases ho
    exact (World.putObj_heap_other this).trans hb⟩
/-- It abides the turn of a block that is no cells. -/
theorem Kep.own {β : Type} {B' : Nat} (hn : n₀ ≤ A.heap.size) (hB : n₀ ≤ B') : OwnFrom B' (fun (_ : β) W => Kep n₀ S A W) := fun _ X Y row hs hg hr =>
  ⟨hs.1.grown hg (Nat.le_trans hn hs.1.size) (fun k e => by have := (hr k e).1; omega), fun b o hb ho hS => by
    have hX := hs.2 b o hb ho hS
    refine (hg.block b (Array.getElem?_eq_some_iff.1 hX).1 (fun e => ?_)).trans hX
    obtain ⟨_, o', ho', hc⟩ := hr b e.symm
    rw [hX] at ho'
    cases ho'
    rw [ho] at hc
    cases hc⟩

theorem kf_mono {B₁ B₂ : Nat} (h : KeepsFrom B₁ W W') (hB : B₁ ≤ B₂) : KeepsFrom B₂ W W' := ⟨h.size, fun k o hk h0 ho => h.same k o (Nat.le_trans hB hk) h0 ho⟩
theorem kf_put {B₁ l : Nat} (hl : l < B₁) (o : Obj) (W : World) : KeepsFrom B₁ W (W.putObj l o) := ⟨by simp, fun k o' hk h0 _ => (World.putObj_heap_other (by omega)).trans h0⟩
end

theorem RoundIn.deep {m m' : Nat} {P : Program} {l : Nat} {f : FuncId} {tmps : Array Value} {assign body : Code} {w : World} {R : Ending → World → Prop} (h : RoundIn Fence.wide m P l f tmps assign body w R) : RoundIn Fence.wide m' P l f tmps assign body w R :=
  ⟨h.1, fun c cs _ => h.2 c cs (room_wide _)⟩

/-- An iterator that gives zs, one by one: whatever the loop over it holds between its rounds; a round may say 'no more'. Ahead of its first round it has laid m blocks. -/
def SeqIt {α : Type} (P : Program) (g : Nat) (lb : Array Value) (encs : α → Array Value) (n₀ : Nat) (S : Nat → Prop) (zs : List α) (w : World) (m : Nat) : Prop :=
  ∀ (l : Nat) (J Jx : List α → World → Prop) (W : World), Below w.heap.size w W → W.heap.size ≤ w.heap.size + 2 → OwnFrom W.heap.size J → OwnFrom W.heap.size Jx →
    (∀ pre x W1, pre ++ [x] <+: zs → J pre W1 → W.heap.size + m ≤ W1.heap.size → ∀ d, YieldAt Fence.wide d P l (encs x) W1 fun e W' => KeepsFrom W.heap.size W1 W' ∧
      ((e = .returned (.bool true) ∧ J (pre ++ [x]) W' ∧ Kep n₀ S W1 W') ∨ (e = .returned (.bool false) ∧ Jx (pre ++ [x]) W'))) →
    J [] W → Calls P g (#[.func (.yield l) #[] #[]] ++ lb) W fun e W' => (∃ v, e = .returned v) ∧ (J zs W' ∨ ∃ pre, pre <+: zs ∧ Jx pre W')

/-- The fence of a walk in a round, or in none. -/
abbrev wideR (ro : Option Nat) : Fence := { Fence.wide with round := ro }

/-- A loop's record. -/
abbrev recd (fn : FuncId) (a : Act) (ps : Array Tmp) (assign body : Code) (d : Nat) (st : LoopState) (pe : Option Code) : Loop := { state := st, pending := pe, fn, tmps := a.tmps, params := ps, assign, body, defers := d }

/-- The law, whatever lies around the loop. -/
theorem it_core {α : Type} (ro : Option Nat) {n : Nat} {P : Program} {g : Operand} {ps : Array Tmp} {assign body : Code} {Q : Exit → Act → World → Prop} {a : Act} {w : World} {l d B : Nat} {mark : List Deferred} {Wf : Nat → World}
    {gf : Nat} {lb : Array Value} (hg : a.eval g = .func (.func gf) #[] lb) (eg : ∀ args w, (callFunc gf args).run P w = .ok (.enter gf args) w)
    {encs : α → Array Value} {n₀ : Nat} {S : Nat → Prop} {zs : List α} {w0 : World} {m : Nat} (hseq : SeqIt P gf lb encs n₀ S zs w0 m)
    (hen : ∀ fn, (Instr.enterLoop fn a.tmps ps assign body ro).run P w = .ok (l, mark) (Wf fn)) (hrec : ∀ fn, (Wf fn).heap[l]? = some (.loop (recd fn a ps assign body d .ready none)))
    (hlast : ∀ fn, (Wf fn).heap.size = l + 1) (hbl : ∀ fn, Below w0.heap.size w0 (Wf fn)) (hls : l + 1 ≤ w0.heap.size + 2) (hlw : w.heap.size ≤ l) (hBl : B ≤ l) (hn : n₀ ≤ w.heap.size) (hps : ∀ x, (encs x).size = ps.size)
    (I : List α → World → Prop) (Ix : Code → List α → World → Prop) (hI : OwnFrom l I) (hIx : ∀ c, OwnFrom l (Ix c)) (h0 : ∀ fn, I [] (Wf fn)) (Ax : α → Act → World → Prop) (hAx : ∀ x a', OwnFrom l (fun (_ : Unit) W => Ax x a' W))
    (hassign : ∀ (pre : List α) (x : α) (W : World) (K : Act → World → Prop), pre ++ [x] <+: zs → l + 1 + m ≤ W.heap.size → I pre W → (∀ a' W', KeepsFrom B W W' → Kep n₀ S W W' → I pre W' → Ax x a' W' → K a' W') →
      assign.wpIn (Fence.wide.inRound l) (n - 1 - 1) P (Exit.then K (fun _ _ _ => False)) { tmps := (ps.zip (encs x)).foldl (fun t (p, v) => t.setIfInBounds p v) a.tmps, defers := [] } W)
    (hbody : ∀ (pre : List α) (x : α) (a' : Act) (W : World), (∃ r, W.heap[l]? = some (.loop r)) → pre ++ [x] <+: zs → l + 1 + m ≤ W.heap.size → I pre W → Ax x a' W → body.wpIn (Fence.wide.inRound l) (n - 1 - 1) P (ownPostG B (Kep n₀ S) I Ix (pre ++ [x]) W) a' W)
    (hdone : ∀ (W : World), I zs W → Q .normal { a with defers := mark ++ a.defers } W)
    (hstop : ∀ (c : Code) (pre : List α) (W : World), pre <+: zs → Ix c pre W → c.wpIn (wideR ro) n P Q { a with defers := mark ++ a.defers } W) :
    (Code.rangeFunc g ps assign body).wpIn (wideR ro) n P Q a w := by
  refine wpIn_rangeFunc ?_
  intro fn _
  have hsz := hlast fn
  refine ⟨l, mark, Wf fn, { target := .fn (.func gf) lb, args := #[.func (.yield l) #[] #[]] }, Wf fn, gf, #[.func (.yield l) #[] #[]] ++ lb, Wf fn, hen fn, ?_, fun _ _ => trivial, ?_, (fun h => by cases h), ?_⟩
  · simp only [resolve, hg]
    simp [go_sem]
  · simp [invoke, go_sem, eg]
  refine CallsIn.mono (R := fun e W' => (∃ v, e = .returned v) ∧ ((I zs W' ∧ W'.heap[l]? = some (.loop (recd fn a ps assign body d .ready none))) ∨ ∃ pre, pre <+: zs ∧ ∃ c, Ix c pre W' ∧ W'.heap[l]? = some (.loop (recd fn a ps assign body d .done (some c))))) ?_ ?_
  · have hcall := hseq l (fun pre W => I pre W ∧ W.heap[l]? = some (.loop (recd fn a ps assign body d .ready none)))
      (fun pre W => ∃ c, Ix c pre W ∧ W.heap[l]? = some (.loop (recd fn a ps assign body d .done (some c)))) (Wf fn) (hbl fn) (by omega)
      (fun s X Y row hs hg' hr => ⟨hI s X Y row hs.1 hg' (fun r e => ⟨by have := (hr r e).1; omega, (hr r e).2⟩), (hg'.block l (Array.getElem?_eq_some_iff.1 hs.2).1 (fun e => by have := (hr l e.symm).1; omega)).trans hs.2⟩)
      (fun s X Y row ⟨c, hc, hl⟩ hg' hr => ⟨c, hIx c s X Y row hc hg' (fun r e => ⟨by have := (hr r e).1; omega, (hr r e).2⟩), (hg'.block l (Array.getElem?_eq_some_iff.1 hl).1 (fun e => by have := (hr l e.symm).1; omega)).trans hl⟩)
      ?_ ⟨h0 fn, hrec fn⟩
    · exact (callsIn_wide (n := n - 1)).2 hcall
    · rintro pre x W hpx ⟨hi, hl⟩ hW dd
      have hy := run_yield (P := P) (args := encs x) hl (hps x)
      refine ⟨fn, _, assign, body, hy, RoundIn.deep (m := n - 1 - 1) ?_⟩
      refine roundIn_of_wpIn (F := Fence.wide) trivial (hassign pre x W _ hpx (by omega) hi ?_)
      clear hy
      intro a' Wa hkfa hkpa hia hax
      have hla := hkfa.same _ _ hBl hl rfl
      have hlta : l < Wa.heap.size := (Array.getElem?_eq_some_iff.1 hla).1
      refine ⟨_, run_beginRound hla rfl, ?_⟩
      obtain ⟨W2, hW2⟩ : ∃ W2, W2 = Wa.putObj l (.loop { recd fn a ps assign body d .ready none with state := .busy }) := ⟨_, rfl⟩
      have hl2 : W2.heap[l]? = some (.loop { recd fn a ps assign body d .ready none with state := .busy }) := by rw [hW2]; exact World.putObj_heap_same hlta
      have hk2 : Kep n₀ S Wa W2 := by rw [hW2]; exact Kep.put hn hlw hla rfl rfl
      have hf2 : KeepsFrom (l + 1) Wa W2 := by rw [hW2]; exact kf_put (Nat.lt_succ_self _) _ _
      have hi2 : I pre W2 := by rw [hW2]; exact hI.putObj _ hia (Nat.le_refl _) hla rfl
      have hx2 : Ax x a' W2 := by rw [hW2]; exact (hAx x a').putObj (s := ()) _ hax (Nat.le_refl _) hla rfl
      rw [← hW2]
      have hsz2 : W.heap.size ≤ W2.heap.size := Nat.le_trans hkfa.size hf2.size
      refine wpIn_mono (hbody pre x a' W2 ⟨_, hl2⟩ hpx (by omega) hi2 hx2) ?_
      have fin : ∀ (jump : Option Code) (W3 : World), KeepsFrom B W2 W3 → ∃ W4, (Instr.endRound l jump).run P W3 = .ok (.bool jump.isNone) W4 ∧ W4 = W3.putObj l (.loop (recd fn a ps assign body d (if jump.isNone then .ready else .done) jump)) ∧
          W3.heap[l]? = some (.loop { recd fn a ps assign body d .ready none with state := .busy }) ∧ W4.heap[l]? = some (.loop (recd fn a ps assign body d (if jump.isNone then .ready else .done) jump)) ∧ KeepsFrom (Wf fn).heap.size W W4 := fun jump W3 hk3 => by
        have hl3 := hk3.same _ _ hBl hl2 rfl
        refine ⟨_, run_endRound (P := P) jump hl3, rfl, hl3, World.putObj_heap_same (Array.getElem?_eq_some_iff.1 hl3).1, ?_⟩
        rw [hsz]
        exact (((kf_mono hkfa (by omega)).trans hf2).trans (kf_mono hk3 (by omega))).trans (kf_put (Nat.lt_succ_self _) _ _)
      rintro e a3 W3 hp
      cases e with
      | normal =>
        obtain ⟨hk3, hkp3, hi3⟩ := hp
        obtain ⟨W4, hr, e4, hl3, hl4, hf4⟩ := fin none W3 hk3
        refine ⟨_, _, hr, hf4, .inl ⟨rfl, ⟨?_, hl4⟩, ?_⟩⟩
        · rw [e4]; exact hI.putObj _ hi3 (Nat.le_refl _) hl3 rfl
        · rw [e4]; exact ((hkpa.trans hk2).trans hkp3).trans (Kep.put hn hlw hl3 rfl rfl)
      | ret =>
        obtain ⟨hk3, hi3⟩ := hp
        obtain ⟨W4, hr, e4, hl3, hl4, hf4⟩ := fin (some .ret) W3 hk3
        exact ⟨_, _, hr, hf4, .inr ⟨rfl, .ret, by rw [e4]; exact (hIx _).putObj _ hi3 (Nat.le_refl _) hl3 rfl, hl4⟩⟩
      | exit id =>
        obtain ⟨hk3, hi3⟩ := hp
        obtain ⟨W4, hr, e4, hl3, hl4, hf4⟩ := fin (some (.exit id)) W3 hk3
        exact ⟨_, _, hr, hf4, .inr ⟨rfl, .exit id, by rw [e4]; exact (hIx _).putObj _ hi3 (Nat.le_refl _) hl3 rfl, hl4⟩⟩
      | goto t =>
        obtain ⟨hk3, hi3⟩ := hp
        obtain ⟨W4, hr, e4, hl3, hl4, hf4⟩ := fin (some (.goto t)) W3 hk3
        exact ⟨_, _, hr, hf4, .inr ⟨rfl, .goto t, by rw [e4]; exact (hIx _).putObj _ hi3 (Nat.le_refl _) hl3 rfl, hl4⟩⟩
      | panic ch => exact hp.elim
      | outgrown => exact hp.elim
  · rintro e W2 ⟨⟨v, rfl⟩, (⟨hi, hl⟩ | ⟨pre, hpre, c, hi, hl⟩)⟩
    · exact ⟨none, _, run_endLoop (P := P) hl (by simp), hdone _ (hI.putObj _ hi (Nat.le_refl _) hl rfl)⟩
    · exact ⟨some c, _, run_endLoop (P := P) hl (by simp), hstop c pre _ hpre ((hIx c).putObj _ hi (Nat.le_refl _) hl rfl)⟩

/-- The law, of a loop in no round. -/
theorem it_out {α : Type} {n : Nat} {P : Program} {g : Operand} {ps : Array Tmp} {assign body : Code} {Q : Exit → Act → World → Prop} {a : Act} {w : World}
    {gf : Nat} {lb : Array Value} (hg : a.eval g = .func (.func gf) #[] lb) (eg : ∀ args w, (callFunc gf args).run P w = .ok (.enter gf args) w)
    {encs : α → Array Value} {n₀ : Nat} {S : Nat → Prop} {zs : List α} {m : Nat} (hseq : SeqIt P gf lb encs n₀ S zs w m) (hn : n₀ ≤ w.heap.size) (hps : ∀ x, (encs x).size = ps.size)
    (I : List α → World → Prop) (Ix : Code → List α → World → Prop) (hI : OwnFrom w.heap.size I) (hIx : ∀ c, OwnFrom w.heap.size (Ix c)) (h0 : I [] w) (Ax : α → Act → World → Prop) (hAx : ∀ x a', OwnFrom w.heap.size (fun (_ : Unit) W => Ax x a' W))
    (hassign : ∀ (l : Nat) (pre : List α) (x : α) (W : World) (K : Act → World → Prop), pre ++ [x] <+: zs → I pre W → (∀ a' W', KeepsFrom w.heap.size W W' → Kep n₀ S W W' → I pre W' → Ax x a' W' → K a' W') →
      assign.wpIn (Fence.wide.inRound l) (n - 1 - 1) P (Exit.then K (fun _ _ _ => False)) { tmps := (ps.zip (encs x)).foldl (fun t (p, v) => t.setIfInBounds p v) a.tmps, defers := [] } W)
    (hbody : ∀ (l : Nat) (pre : List α) (x : α) (a' : Act) (W : World), w.heap.size ≤ l ∧ w.heap.size + 2 + m ≤ W.heap.size → (∃ r, W.heap[l]? = some (.loop r)) → pre ++ [x] <+: zs → I pre W → Ax x a' W → body.wpIn (Fence.wide.inRound l) (n - 1 - 1) P (ownPostG w.heap.size (Kep n₀ S) I Ix (pre ++ [x]) W) a' W)
    (hdone : ∀ (D : Nat) (W : World), w.heap.size ≤ D → I zs W → W.heap[D]? = some (.deferred (some [])) → Q .normal { a with defers := { target := .collected D, args := #[] } :: a.defers } W)
    (hstop : ∀ (D : Nat) (c : Code) (pre : List α) (W : World), w.heap.size ≤ D → pre <+: zs → Ix c pre W → W.heap[D]? = some (.deferred (some [])) → c.wpIn Fence.wide n P Q { a with defers := { target := .collected D, args := #[] } :: a.defers } W) :
    (Code.rangeFunc g ps assign body).wpIn Fence.wide n P Q a w := by
  have up : ∀ {β : Type} {J : β → World → Prop}, OwnFrom w.heap.size J → OwnFrom (w.heap.size + 1) J := fun hJ s X Y row hs hg' hr => hJ s X Y row hs hg' (fun r e => ⟨by have := (hr r e).1; omega, (hr r e).2⟩)
  have dO : ∀ {X Y : World} {row : Option Nat}, X.heap[w.heap.size]? = some (.deferred (some [])) → X.grownBy Y row → (∀ r, row = some r → w.heap.size + 1 ≤ r ∧ ∃ o : Obj, X.heap[r]? = some o ∧ o.isCells = false) → Y.heap[w.heap.size]? = some (.deferred (some [])) := fun hk hg' hr =>
    (hg'.block _ (Array.getElem?_eq_some_iff.1 hk).1 (fun e => by have := (hr _ e.symm).1; omega)).trans hk
  have hkk : ∀ {X Y : World}, KeepsFrom w.heap.size X Y → X.heap[w.heap.size]? = some (.deferred (some [])) → Y.heap[w.heap.size]? = some (.deferred (some [])) := fun h hk => h.same _ _ (Nat.le_refl _) hk rfl
  refine it_core none (l := w.heap.size + 1) (d := w.heap.size) (B := w.heap.size) (mark := [{ target := .collected w.heap.size, args := #[] }]) (w0 := w)
    (Wf := fun fn => (w.alloc (.deferred (some []))).alloc (.loop (recd fn a ps assign body w.heap.size .ready none))) hg eg hseq (fun fn => run_enterLoop_outer _ _ _ _ _)
    (fun fn => by have := World.alloc_heap_new (w.alloc (.deferred (some []))) (.loop (recd fn a ps assign body w.heap.size .ready none)); rwa [World.size_alloc] at this)
    (fun fn => by simp) (fun fn => (((Below.refl _ w).alloc (Nat.le_refl _) _).alloc (by simp) _)) (by omega) (by omega) (by omega) hn hps
    (fun pre W => I pre W ∧ W.heap[w.heap.size]? = some (.deferred (some []))) (fun c pre W => Ix c pre W ∧ W.heap[w.heap.size]? = some (.deferred (some [])))
    (fun s X Y row hs hg' hr => ⟨up hI s X Y row hs.1 hg' hr, dO hs.2 hg' hr⟩) (fun c s X Y row hs hg' hr => ⟨up (hIx c) s X Y row hs.1 hg' hr, dO hs.2 hg' hr⟩)
    (fun fn => ⟨hI.alloc _ (hI.alloc _ h0), (Below.heap_alloc _ _ _ (by simp)).trans (World.alloc_heap_new w _)⟩) Ax (fun x a' => up (hAx x a'))
    (fun pre x W K hpx _ hi hK => hassign _ pre x W K hpx hi.1 (fun a' W' h1 h2 h3 h4 => hK a' W' h1 h2 ⟨h3, hkk h1 hi.2⟩ h4))
    (fun pre x a' W hl hpx hsz hi hax => wpIn_mono (hbody _ pre x a' W ⟨by omega, by omega⟩ hl hpx hi.1 hax) ?_)
    (fun W hi => hdone _ W (Nat.le_refl _) hi.1 hi.2) (fun c pre W hp hi => hstop _ c pre W (Nat.le_refl _) hp hi.1 hi.2)
  rintro e a3 W3 hp
  cases e with
  | normal => exact ⟨hp.1, hp.2.1, hp.2.2, hkk hp.1 hi.2⟩
  | ret => exact ⟨hp.1, hp.2, hkk hp.1 hi.2⟩
  | exit id => exact ⟨hp.1, hp.2, hkk hp.1 hi.2⟩
  | goto t => exact ⟨hp.1, hp.2, hkk hp.1 hi.2⟩
  | panic ch => exact hp
  | outgrown => exact hp

/-- The law, of a loop in a round of loop l₀. -/
theorem it_in {α : Type} {n : Nat} {P : Program} {g : Operand} {ps : Array Tmp} {assign body : Code} {Q : Exit → Act → World → Prop} {a : Act} {w : World} {l₀ : Nat} {r₀ : Loop} (hl₀ : w.heap[l₀]? = some (.loop r₀))
    {gf : Nat} {lb : Array Value} (hg : a.eval g = .func (.func gf) #[] lb) (eg : ∀ args w, (callFunc gf args).run P w = .ok (.enter gf args) w)
    {encs : α → Array Value} {n₀ : Nat} {S : Nat → Prop} {zs : List α} {m : Nat} (hseq : SeqIt P gf lb encs n₀ S zs w m) (hn : n₀ ≤ w.heap.size) (hps : ∀ x, (encs x).size = ps.size)
    (I : List α → World → Prop) (Ix : Code → List α → World → Prop) (hI : OwnFrom w.heap.size I) (hIx : ∀ c, OwnFrom w.heap.size (Ix c)) (h0 : I [] w) (Ax : α → Act → World → Prop) (hAx : ∀ x a', OwnFrom w.heap.size (fun (_ : Unit) W => Ax x a' W))
    (hassign : ∀ (l : Nat) (pre : List α) (x : α) (W : World) (K : Act → World → Prop), pre ++ [x] <+: zs → I pre W → (∀ a' W', KeepsFrom w.heap.size W W' → Kep n₀ S W W' → I pre W' → Ax x a' W' → K a' W') →
      assign.wpIn (Fence.wide.inRound l) (n - 1 - 1) P (Exit.then K (fun _ _ _ => False)) { tmps := (ps.zip (encs x)).foldl (fun t (p, v) => t.setIfInBounds p v) a.tmps, defers := [] } W)
    (hbody : ∀ (l : Nat) (pre : List α) (x : α) (a' : Act) (W : World), w.heap.size ≤ l ∧ l + 1 + m ≤ W.heap.size → (∃ r, W.heap[l]? = some (.loop r)) → pre ++ [x] <+: zs → I pre W → Ax x a' W → body.wpIn (Fence.wide.inRound l) (n - 1 - 1) P (ownPostG w.heap.size (Kep n₀ S) I Ix (pre ++ [x]) W) a' W)
    (hdone : ∀ (W : World), I zs W → Q .normal a W)
    (hstop : ∀ (c : Code) (pre : List α) (W : World), pre <+: zs → Ix c pre W → c.wpIn (Fence.wide.inRound l₀) n P Q a W) :
    (Code.rangeFunc g ps assign body).wpIn (Fence.wide.inRound l₀) n P Q a w :=
  it_core (some l₀) (l := w.heap.size) (d := r₀.defers) (B := w.heap.size) (mark := []) (w0 := w) (Wf := fun fn => w.alloc (.loop (recd fn a ps assign body r₀.defers .ready none))) hg eg hseq (fun fn => run_enterLoop_inner hl₀ _ _ _ _ _)
    (fun fn => World.alloc_heap_new w _) (fun fn => by simp) (fun fn => (Below.refl _ w).alloc (Nat.le_refl _) _) (by omega) (Nat.le_refl _) (Nat.le_refl _) hn hps I Ix hI hIx (fun fn => hI.alloc _ h0) Ax hAx
    (fun pre x W K hpx _ hi hK => hassign _ pre x W K hpx hi hK) (fun pre x a' W hl hpx hsz hi hax => hbody _ pre x a' W ⟨Nat.le_refl _, hsz⟩ hl hpx hi hax) hdone hstop

end Go.Proofs.YtalfpbalekbinaaGreat
