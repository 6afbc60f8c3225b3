import Derived.Test.YtmgoahbloppdmaaGreatMg07
import Derived.Test.YtmgoahbloppdmaaGreatMg08
import Derived.Test.YtmgoahbloppdmaaGreatMg10
import Derived.Test.YtmgoahbloppdmaaGreatMg04
import Derived.Sort.Grow
import Derived.Deep.RegionHeld3
import Derived.Test.YtmgoahbloppdmaaGreatMg09
import Derived.Test.YtmgoahbloppdmaaGreatMg01
import Derived.Deep.QuietTactic
import Derived.BigQuiet
/-
  What Of and Returns of layer 8 are to answer.
-/
namespace Go.Proofs.YtmgoahbloppdmaaGreat
open Go.RowKit

/-- Edges as numbers. -/
def zs (l : List Nat) : List Int := l.map fun b : Nat => (b : Int)

/-- What Returns is to answer: l and the code z. -/
def RetIs (n : Int) (es : List (Int × Int)) (s : Df.St) (x : Int) (l : List Nat) (z : Int) : Prop :=
  (Si.valid n es = false ∧ l = [] ∧ z = 1) ∨ (Si.valid n es = true ∧ ¬ IsVF n es s ∧ l = [] ∧ z = 80) ∨ (IsVF n es s ∧ ¬ (0 ≤ x ∧ x < (es.length : Int)) ∧ l = [] ∧ z = 2) ∨ ∃ e : Nat, IsVF n es s ∧ x = (e : Int) ∧ e < es.length ∧ l = Lo.rets es s e ∧ z = 0

theorem IsVF.valid {n : Int} {es : List (Int × Int)} {s : Df.St} (h : IsVF n es s) : Si.valid n es = true := by
  obtain ⟨m, e, hv, _⟩ := h
  rw [e]
  exact Si.valid_iff.2 hv

theorem RetIs.unique {n : Int} {es : List (Int × Int)} {s : Df.St} {x z z' : Int} {l l' : List Nat} (h : RetIs n es s x l z) (h' : RetIs n es s x l' z') : l = l' ∧ z = z' := by
  rcases h with ⟨a, b, c⟩ | ⟨a, a2, b, c⟩ | ⟨a, a2, b, c⟩ | ⟨e, a, a2, a3, b, c⟩ <;> rcases h' with ⟨a', b', c'⟩ | ⟨a', a2', b', c'⟩ | ⟨a', a2', b', c'⟩ | ⟨e', a', a2', a3', b', c'⟩
  · exact ⟨by rw [b, b'], by rw [c, c']⟩
  · rw [a] at a'; cases a'
  · rw [a'.valid] at a; cases a
  · rw [a'.valid] at a; cases a
  · rw [a] at a'; cases a'
  · exact ⟨by rw [b, b'], by rw [c, c']⟩
  · exact absurd a' a2
  · exact absurd a' a2
  · rw [a.valid] at a'; cases a'
  · exact absurd a a2'
  · exact ⟨by rw [b, b'], by rw [c, c']⟩
  · exact absurd ⟨by omega, by omega⟩ a2
  · rw [a.valid] at a'; cases a'
  · exact absurd a a2'
  · exact absurd ⟨by omega, by omega⟩ a2'
  · obtain rfl : e = e' := by omega
    exact ⟨by rw [b, b'], by rw [c, c']⟩

/-- A list of one's own and the code. -/
def RetPost (n : Int) (es : List (Int × Int)) (s : Df.St) (x : Int) (w : World) (r : Ending) (w' : World) : Prop :=
  ∃ v l z, r = .returned (.tuple #[v, .int .i64 z]) ∧ RetIs n es s x l z ∧ OwnZ w' w.heap.size v (zs l) ∧ Below w.heap.size w w'

/-- The first k, by edge. -/
def upTo (f : Nat → Int) (k : Nat) : List Int := (List.range k).map f
theorem upTo_succ (f : Nat → Int) (k : Nat) : upTo f (k + 1) = upTo f k ++ [f k] := by
  unfold upTo
  rw [List.range_succ, List.map_append]
  rfl
theorem upTo_len (f : Nat → Int) (k : Nat) : (upTo f k).length = k := by simp [upTo]
theorem upTo_at {f : Nat → Int} {k i : Nat} (h : i < k) : (upTo f k)[i]? = some (f i) := by
  unfold upTo
  rw [List.getElem?_map, List.getElem?_range h]
  rfl

/-- What Of is to answer. -/
def LowIs (n : Int) (es : List (Int × Int)) (s : Df.St) (A1 A2 A3 : List Int) (ls : List (List Int)) (z : Int) : Prop :=
  (Si.valid n es = false ∧ A1 = [] ∧ A2 = [] ∧ A3 = [] ∧ ls = [] ∧ z = 1) ∨ (Si.valid n es = true ∧ ¬ IsVF n es s ∧ A1 = [] ∧ A2 = [] ∧ A3 = [] ∧ ls = [] ∧ z = 80) ∨
  ∃ m : Nat, n = (m : Int) ∧ Si.Val m es ∧ Df.VF m es s ∧ A1 = upTo (Lo.low es s) es.length ∧ A2 = upTo (Lo.low2 es s) es.length ∧ A3 = upTo (Lo.nest es s) es.length ∧ ls = Lo.outTo m es s es.length ∧ z = 0

/-- Lists of one's own, and the code. -/
def LowPost8 (n : Int) (es : List (Int × Int)) (s : Df.St) (w : World) (r : Ending) (w' : World) : Prop :=
  ∃ v1 v2 v3 vo vs A1 A2 A3 ls z, r = .returned (.tuple #[.agg #[v1, v2, v3, vo], .int .i64 z]) ∧ LowIs n es s A1 A2 A3 ls z ∧ OwnZ w' w.heap.size v1 A1 ∧ OwnZ w' w.heap.size v2 A2 ∧ OwnZ w' w.heap.size v3 A3 ∧ RowsZ w' w.heap.size vo vs ls ∧ Below w.heap.size w w'

theorem LowIs.unique {n : Int} {es : List (Int × Int)} {s : Df.St} {A1 A2 A3 B1 B2 B3 : List Int} {ls ls' : List (List Int)} {z z' : Int} (h : LowIs n es s A1 A2 A3 ls z) (h' : LowIs n es s B1 B2 B3 ls' z') : A1 = B1 ∧ A2 = B2 ∧ A3 = B3 ∧ ls = ls' ∧ z = z' := by
  rcases h with ⟨a, b1, b2, b3, b4, b5⟩ | ⟨a, a2, b1, b2, b3, b4, b5⟩ | ⟨m, a, a2, a3, b1, b2, b3, b4, b5⟩ <;> rcases h' with ⟨a', b1', b2', b3', b4', b5'⟩ | ⟨a', a2', b1', b2', b3', b4', b5'⟩ | ⟨m', a', a2', a3', b1', b2', b3', b4', b5'⟩
  · exact ⟨by rw [b1, b1'], by rw [b2, b2'], by rw [b3, b3'], by rw [b4, b4'], by rw [b5, b5']⟩
  · rw [a] at a'; cases a'
  · rw [a', Si.valid_iff.2 a2'] at a; cases a
  · rw [a] at a'; cases a'
  · exact ⟨by rw [b1, b1'], by rw [b2, b2'], by rw [b3, b3'], by rw [b4, b4'], by rw [b5, b5']⟩
  · exact absurd ⟨m', a', a2', a3'⟩ a2
  · rw [a, Si.valid_iff.2 a2] at a'; cases a'
  · exact absurd ⟨m, a, a2, a3⟩ a2'
  · obtain rfl : m = m' := by omega
    exact ⟨by rw [b1, b1'], by rw [b2, b2'], by rw [b3, b3'], by rw [b4, b4'], by rw [b5, b5']⟩

end Go.Proofs.YtmgoahbloppdmaaGreat

/-
  The shape of a list of lists.
-/
namespace Go.Proofs.YtmgoahbloppdmaaGreat
open Go.RowKit

theorem row_form {w : World} {B : Nat} {v : Value} {vs : List Value} {ls : List (List Int)} (h : RowsZ w B v vs ls) (hn : 0 < ls.length) : ∃ g c, v = .slice (some ⟨g, 0, none⟩) ls.length c := by
  rcases h.outer.2 with ⟨rfl, h0⟩ | ⟨g, cap, cur, rfl, _⟩
  · omega
  · exact ⟨g, cap, rfl⟩
theorem row_shape {w : World} {B : Nat} {v : Value} {vs : List Value} {ls : List (List Int)} (h : RowsZ w B v vs ls) : ∃ ao c, v = .slice ao ls.length c := by
  rcases h.outer.2 with ⟨rfl, h0⟩ | ⟨g, cap, cur, rfl, _⟩
  · exact ⟨none, 0, by rw [h0]⟩
  · exact ⟨_, cap, rfl⟩

end Go.Proofs.YtmgoahbloppdmaaGreat

/-
  Lists of lists that are alike.
-/
namespace Go.Proofs.YtmgoahbloppdmaaGreat
open Go.RowKit Go.Sort

set_option maxRecDepth 100000 in
set_option maxHeartbeats 8000000 in
/-- Lists of lists that are alike are the same. -/
theorem samelists_any (B B' : Nat) (v v' : Value) (vs vs' : List Value) (ls : List (List Int)) (w : World) (h : RowsZ w B v vs ls) (h' : RowsZ w B' v' vs' ls) (hl : ls.length ≤ 4611686018427387904) (hll : ∀ l ∈ ls, l.length ≤ 4611686018427387904) :
    Calls Tryz.prog 14 #[v, v'] w fun e w' => e = .returned (.bool true) ∧ Below w.heap.size w w' := by
  obtain ⟨ao, c, rfl⟩ := row_shape h
  obtain ⟨ao', c', rfl⟩ := row_shape h'
  have H := Nu.hid h
  have H' := Nu.hid h'
  have HLL := Nu.hid hll
  have j1 : ((ls.length : Int) != (ls.length : Int)) = false := by simp
  clear h h' hll
  go_enter Tryz.func14, Tryz.ntmps14
  go_wp2
  go_loopw [5] (fun cv wr => ∃ k : Nat, k ≤ ls.length ∧ cv = .int .i64 (k : Int) ∧ Below w.heap.size w wr) (fun cv _ => ls.length - (intOf cv).toNat)
  case atStart => exact ⟨0, Nat.zero_le _, rfl, Below.refl _ _⟩
  case round =>
    obtain ⟨k, hk, rfl, hb⟩ := hrel
    have HB := Nu.hid hb
    by_cases hlt : k < ls.length
    · have hlti : (k : Int) < (ls.length : Int) := by omega
      have hk0 : (0 : Int) ≤ (k : Int) := by omega
      obtain ⟨l, hlk⟩ : ∃ l, ls[k]? = some l := ⟨_, List.getElem?_eq_getElem hlt⟩
      have h1 := H.out.later hb
      have h2 := H'.out.later hb
      obtain ⟨x, hx⟩ := h1.at' hlk
      obtain ⟨y, hy⟩ := h2.at' hlk
      obtain ⟨xo, xc, hxe, hxa, -⟩ := (h1.row k x l hx hlk).form
      obtain ⟨yo, yc, hye, hya, -⟩ := (h2.row k y l hy hlk).form
      subst hxe
      subst hye
      obtain ⟨g, gc, e1⟩ := row_form h1 (by omega)
      obtain ⟨g', gc', e2⟩ := row_form h2 (by omega)
      cases e1
      cases e2
      have ea : ∀ G : Nat, ((⟨G, 0, none⟩ : Addr).add k) = ⟨G, k, none⟩ := fun G => by
        by_cases h0 : k = 0 <;> simp [Addr.add, h0]
      have cx := World.ownsRow.cells h1.outer (g := g) rfl k _ hx
      have cy := World.ownsRow.cells h2.outer (g := g') rfl k _ hy
      rw [ea] at cx cy
      have hsz : l.length ≤ 4611686018427387904 := HLL.out l (List.mem_of_getElem? hlk)
      have hsame : ∀ W, Below wr.heap.size wr W → Calls Tryz.prog 12 #[.slice xo l.length xc, .slice yo l.length yc] W fun e w' => e = .returned (.bool true) ∧ Below W.heap.size W w' := fun W hbW => by
        refine (sameints_any xo yo xc yc l.length l.length l l W rfl rfl (hxa.later hbW) (hya.later hbW) hsz).mono ?_
        rintro e w' ⟨h1, h2⟩
        exact ⟨by rw [h1]; simp, h2⟩
      have HSAME := Nu.hid hsame
      obtain ⟨p1, hp1⟩ : ∃ p1, l.length = p1 := ⟨_, rfl⟩
      rw [hp1] at cx cy HSAME
      have hS : ∀ W, Below wr.heap.size wr W → (W.cell? ⟨g, k, none⟩ = some (.slice xo p1 xc) ∧ W.cell? ⟨g', k, none⟩ = some (.slice yo p1 yc) ∧ Below wr.heap.size wr W) := fun W hbW =>
        ⟨(hbW.cell (p := ⟨g, k, none⟩) (block_lt_of_cell cx)).trans cx, (hbW.cell (p := ⟨g', k, none⟩) (block_lt_of_cell cy)).trans cy, hbW⟩
      have HS := Nu.hid hS
      have hbr : Below wr.heap.size wr wr.drew := (Below.refl _ _).drew
      clear h1 h2 hx hy hxa hya hlk hb hsame hS ea hp1 hsz
      go_wp2_with fail
      go_region_held3 (fun W => W.cell? ⟨g, k, none⟩ = some (.slice xo p1 xc) ∧ W.cell? ⟨g', k, none⟩ = some (.slice yo p1 yc) ∧ Below wr.heap.size wr W)
        (exact HS.out _ (by first | assumption | exact hbr))
        ((go_at_call 12; refine (HSAME.out _ (by first | assumption | exact hbr)).mono ?_; rintro e w6 ⟨rfl, hbs⟩; have hbz : Below wr.heap.size wr w6 := Below.trans (by first | assumption | exact hbr) (hbs.mono (Below.size (by first | assumption | exact hbr)))))
      have HBZ := Nu.hid (HB.out.trans (hbz.mono HB.out.size))
      clear hbz hbs HSAME HS hbr
      go_wp2
      go_roundw
      case rel => exact ⟨k + 1, by omega, by go_num, HBZ.out⟩
      case measure => simp [intOf]; omega
    · have hd : ¬ ((k : Int) < (ls.length : Int)) := by omega
      clear hb
      go_wp2
      go_ret
      exact ⟨rfl, HB.out⟩

end Go.Proofs.YtmgoahbloppdmaaGreat

/-
  The statements' own Same of layer 8, of answers that are alike.
-/
namespace Go.Proofs.YtmgoahbloppdmaaGreat
open Go.RowKit Go.Sort

/-- Three lists and a list of lists, wherever they lie. -/
structure LowAt (w : World) (v1 v2 v3 vo : Value) (A1 A2 A3 : List Int) (ls : List (List Int)) : Prop where
  o1 : ∃ B, OwnZ w B v1 A1
  o2 : ∃ B, OwnZ w B v2 A2
  o3 : ∃ B, OwnZ w B v3 A3
  rows : ∃ B vs, RowsZ w B vo vs ls

theorem LowAt.later {w w' : World} {v1 v2 v3 vo : Value} {A1 A2 A3 : List Int} {ls : List (List Int)} (h : LowAt w v1 v2 v3 vo A1 A2 A3 ls) (hb : Below w.heap.size w w') : LowAt w' v1 v2 v3 vo A1 A2 A3 ls := by
  obtain ⟨⟨_, h1⟩, ⟨_, h2⟩, ⟨_, h3⟩, ⟨_, _, h4⟩⟩ := h
  exact ⟨⟨_, h1.later hb⟩, ⟨_, h2.later hb⟩, ⟨_, h3.later hb⟩, ⟨_, _, h4.later hb⟩⟩

theorem same_own (B B' : Nat) (v v' : Value) (l : List Int) (w : World) (h : OwnZ w B v l) (h' : OwnZ w B' v' l) (hl : l.length ≤ 4611686018427387904) :
    Calls Tryz.prog 12 #[v, v'] w fun e w' => e = .returned (.bool true) ∧ Below w.heap.size w w' := by
  obtain ⟨ao, ca, rfl, ha, _⟩ := h.form
  obtain ⟨bo, cb, rfl, hb, _⟩ := h'.form
  refine (sameints_any ao bo ca cb l.length l.length l l w rfl rfl ha hb hl).mono ?_
  rintro e w' ⟨rfl, hb'⟩
  exact ⟨by simp, hb'⟩

set_option maxRecDepth 100000 in
set_option maxHeartbeats 8000000 in
theorem same8_any (v1 v2 v3 vo u1 u2 u3 uo : Value) (A1 A2 A3 : List Int) (ls : List (List Int)) (w : World) (h : LowAt w v1 v2 v3 vo A1 A2 A3 ls) (h' : LowAt w u1 u2 u3 uo A1 A2 A3 ls) (n1 : A1.length ≤ 8388608) (n2 : A2.length ≤ 8388608) (n3 : A3.length ≤ 8388608) (n4 : ls.length ≤ 8388608) (n5 : ∀ l ∈ ls, l.length ≤ 8388608) :
    Calls Tryz.prog 9 #[.agg #[v1, v2, v3, vo], .agg #[u1, u2, u3, uo]] w fun e w' => e = .returned (.bool true) ∧ Below w.heap.size w w' := by
  obtain ⟨W, hW⟩ : ∃ W, W = (w.alloc (.cells #[v1, v2, v3, vo] 31)).alloc (.cells #[u1, u2, u3, uo] 31) := ⟨_, rfl⟩
  have hB0 : Below w.heap.size w W := by rw [hW]; exact ((Below.refl _ _).alloc (Nat.le_refl _) _).alloc (by simp) _
  have g1 : W.heap[w.heap.size]? = some (.cells #[v1, v2, v3, vo] 31 (0, 0)) := by
    rw [hW, Below.heap_alloc _ _ _ (by simp)]
    exact heap_alloc_new w _
  have g2 : W.heap[w.heap.size + 1]? = some (.cells #[u1, u2, u3, uo] 31 (0, 0)) := by
    rw [hW]
    exact alloc_at (by simp)
  have lt1 := lt_of_block g1
  have lt2 := lt_of_block g2
  have HBX : Hid (∀ V, Below W.heap.size W V → (V.cell? ⟨w.heap.size, 0, none⟩ = some v1 ∧ V.cell? ⟨w.heap.size, 1, none⟩ = some v2 ∧ V.cell? ⟨w.heap.size, 2, none⟩ = some v3 ∧ V.cell? ⟨w.heap.size, 3, none⟩ = some vo) ∧ (V.cell? ⟨w.heap.size + 1, 0, none⟩ = some u1 ∧ V.cell? ⟨w.heap.size + 1, 1, none⟩ = some u2 ∧ V.cell? ⟨w.heap.size + 1, 2, none⟩ = some u3 ∧ V.cell? ⟨w.heap.size + 1, 3, none⟩ = some uo) ∧ LowAt V v1 v2 v3 vo A1 A2 A3 ls ∧ LowAt V u1 u2 u3 uo A1 A2 A3 ls) := fun V hV => by
    obtain ⟨x0, x1, x2, x3, -⟩ := four_cells ((hV.block _ lt1).trans g1)
    obtain ⟨q0, q1, q2, q3, -⟩ := four_cells ((hV.block _ lt2).trans g2)
    exact ⟨⟨x0, x1, x2, x3⟩, ⟨q0, q1, q2, q3⟩, (h.later hB0).later hV, (h'.later hB0).later hV⟩
  have HS1 : Hid (∀ V, Below W.heap.size W V → Calls Tryz.prog 12 #[v1, u1] V fun e w' => e = .returned (.bool true) ∧ Below V.heap.size V w') := fun V hV => by
    obtain ⟨_, _, h1, h2⟩ := HBX.out V hV
    obtain ⟨_, a⟩ := h1.o1
    obtain ⟨_, b⟩ := h2.o1
    exact same_own _ _ _ _ _ V a b (by omega)
  have HS2 : Hid (∀ V, Below W.heap.size W V → Calls Tryz.prog 12 #[v2, u2] V fun e w' => e = .returned (.bool true) ∧ Below V.heap.size V w') := fun V hV => by
    obtain ⟨_, _, h1, h2⟩ := HBX.out V hV
    obtain ⟨_, a⟩ := h1.o2
    obtain ⟨_, b⟩ := h2.o2
    exact same_own _ _ _ _ _ V a b (by omega)
  have HS3 : Hid (∀ V, Below W.heap.size W V → Calls Tryz.prog 12 #[v3, u3] V fun e w' => e = .returned (.bool true) ∧ Below V.heap.size V w') := fun V hV => by
    obtain ⟨_, _, h1, h2⟩ := HBX.out V hV
    obtain ⟨_, a⟩ := h1.o3
    obtain ⟨_, b⟩ := h2.o3
    exact same_own _ _ _ _ _ V a b (by omega)
  have HS4 : Hid (∀ V, Below W.heap.size W V → Calls Tryz.prog 14 #[vo, uo] V fun e w' => e = .returned (.bool true) ∧ Below V.heap.size V w') := fun V hV => by
    obtain ⟨_, _, h1, h2⟩ := HBX.out V hV
    obtain ⟨_, _, a⟩ := h1.rows
    obtain ⟨_, _, b⟩ := h2.rows
    exact samelists_any _ _ _ _ _ _ _ V a b (by omega) (fun l hl => by have := n5 l hl; omega)
  have HW := Nu.hid hW
  have HB0 := Nu.hid hB0
  obtain ⟨⟨x0, x1, x2, x3⟩, ⟨q0, q1, q2, q3⟩, -⟩ := HBX.out W (Below.refl _ _)
  rw [hW] at x0 x1 x2 x3 q0 q1 q2 q3
  clear h h' hB0 g1 g2 hW
  go_enter Tryz.func9, Tryz.ntmps9
  go_wp2_with (go_at_call 12; rw [← HW.out]; refine (HS1.out _ (Below.refl _ _)).mono ?_; rintro e w1 ⟨rfl, hb1⟩; refine Hid.out ?_)
  refine Nu.hid ?_
  obtain ⟨⟨x0, x1, x2, x3⟩, ⟨q0, q1, q2, q3⟩, -⟩ := HBX.out w1 hb1
  have HB1 := Nu.hid hb1
  clear hb1
  go_wp2_with (go_at_call 12; refine (HS2.out _ HB1.out).mono ?_; rintro e w2 ⟨rfl, hb2⟩; refine Hid.out ?_)
  refine Nu.hid ?_
  have hb2' := HB1.out.trans (hb2.mono HB1.out.size)
  obtain ⟨⟨x0, x1, x2, x3⟩, ⟨q0, q1, q2, q3⟩, -⟩ := HBX.out w2 hb2'
  have HB2 := Nu.hid hb2'
  clear hb2 hb2'
  go_wp2_with (go_at_call 12; refine (HS3.out _ HB2.out).mono ?_; rintro e w3 ⟨rfl, hb3⟩; refine Hid.out ?_)
  refine Nu.hid ?_
  have hb3' := HB2.out.trans (hb3.mono HB2.out.size)
  obtain ⟨⟨x0, x1, x2, x3⟩, ⟨q0, q1, q2, q3⟩, -⟩ := HBX.out w3 hb3'
  have HB3 := Nu.hid hb3'
  clear hb3 hb3'
  go_wp2_with (go_at_call 14; refine (HS4.out _ HB3.out).mono ?_; rintro e w4 ⟨rfl, hb4⟩; have HB4 := Nu.hid hb4; clear hb4)
  go_ret
  exact ⟨rfl, HB0.out.trans ((HB3.out.trans (HB4.out.mono HB3.out.size)).mono HB0.out.size)⟩

end Go.Proofs.YtmgoahbloppdmaaGreat

/-
  Answers of Of, by their four slices; how long the lists are.
-/
namespace Go.Proofs.YtmgoahbloppdmaaGreat
open Go.RowKit

theorem LowIs.small {n : Int} {es : List (Int × Int)} {s : Df.St} {A1 A2 A3 : List Int} {ls : List (List Int)} {z : Int} (h : LowIs n es s A1 A2 A3 ls z) : A1.length ≤ 8388608 ∧ A2.length ≤ 8388608 ∧ A3.length ≤ 8388608 ∧ ls.length ≤ 8388608 ∧ ∀ l ∈ ls, l.length ≤ 8388608 := by
  rcases h with ⟨_, rfl, rfl, rfl, rfl, _⟩ | ⟨_, _, rfl, rfl, rfl, rfl, _⟩ | ⟨m, rfl, hv, hVF, rfl, rfl, rfl, rfl, _⟩
  · simp
  · simp
  · have h1 := hv.few
    have h2 := hv.hi
    refine ⟨by rw [upTo_len]; omega, by rw [upTo_len]; omega, by rw [upTo_len]; omega, by rw [Lo.outTo_len]; omega, fun l hl => ?_⟩
    have := (Lo.outTo_half hv hVF es.length (Nat.le_refl _) l hl).2
    omega

/-- What Of answers, slice by slice. -/
theorem LowPost8.form {n : Int} {es : List (Int × Int)} {s : Df.St} {w w' : World} {r : Ending} (h : LowPost8 n es s w r w') :
    ∃ a1 k1 c1 a2 k2 c2 a3 k3 c3 a4 k4 c4 A1 A2 A3 ls z, r = .returned (.tuple #[.agg #[.slice a1 k1 c1, .slice a2 k2 c2, .slice a3 k3 c3, .slice a4 k4 c4], .int .i64 z]) ∧ LowIs n es s A1 A2 A3 ls z ∧ LowAt w' (.slice a1 k1 c1) (.slice a2 k2 c2) (.slice a3 k3 c3) (.slice a4 k4 c4) A1 A2 A3 ls ∧ Below w.heap.size w w' := by
  obtain ⟨v1, v2, v3, vo, vs, A1, A2, A3, ls, z, rfl, hI, o1, o2, o3, o4, hb⟩ := h
  obtain ⟨a1, c1, rfl, _⟩ := o1.form
  obtain ⟨a2, c2, rfl, _⟩ := o2.form
  obtain ⟨a3, c3, rfl, _⟩ := o3.form
  obtain ⟨a4, c4, rfl⟩ := row_shape o4
  exact ⟨_, _, _, _, _, _, _, _, _, _, _, _, A1, A2, A3, ls, z, rfl, hI, ⟨⟨_, o1⟩, ⟨_, o2⟩, ⟨_, o3⟩, _, _, o4⟩, hb⟩

theorem RetIs.small {n : Int} {es : List (Int × Int)} {s : Df.St} {x : Int} {l : List Nat} {z : Int} (h : RetIs n es s x l z) : (zs l).length ≤ 8388608 := by
  unfold zs
  rw [List.length_map]
  rcases h with ⟨_, rfl, _⟩ | ⟨_, _, rfl, _⟩ | ⟨_, _, rfl, _⟩ | ⟨e, ⟨m, _, hv, _⟩, _, he, rfl, _⟩
  · simp
  · simp
  · simp
  · have h1 := hv.few
    unfold Lo.rets
    split
    · have := List.length_filter_le (Lo.isRet es s e) (List.range es.length)
      rw [List.length_range] at this
      omega
    · simp

theorem RetIs.code {n : Int} {es : List (Int × Int)} {s : Df.St} {x : Int} {l : List Nat} {z : Int} (h : RetIs n es s x l z) : z = 0 ∨ z = 1 ∨ z = 2 ∨ z = 80 := by
  rcases h with ⟨_, _, h⟩ | ⟨_, _, _, h⟩ | ⟨_, _, _, h⟩ | ⟨e, _, _, _, _, h⟩
  · exact .inr (.inl h)
  · exact .inr (.inr (.inr h))
  · exact .inr (.inr (.inl h))
  · exact .inl h

/-- What Returns answers, as a slice. -/
theorem RetPost.form {n : Int} {es : List (Int × Int)} {s : Df.St} {x : Int} {w w' : World} {r : Ending} (h : RetPost n es s x w r w') :
    ∃ a k c l z, r = .returned (.tuple #[.slice a k c, .int .i64 z]) ∧ RetIs n es s x l z ∧ OwnZ w' w.heap.size (.slice a k c) (zs l) ∧ Below w.heap.size w w' := by
  obtain ⟨v, l, z, rfl, hI, ho, hb⟩ := h
  obtain ⟨a, c, rfl, _⟩ := ho.form
  exact ⟨_, _, _, l, z, rfl, hI, ho, hb⟩

end Go.Proofs.YtmgoahbloppdmaaGreat

/-
  The document's first example of layer 8, pure: a cycle of four vertices.
-/
namespace Go.Proofs.YtmgoahbloppdmaaGreat
namespace Lo
open Df

def es4 : List (Int × Int) := [(0, 1), (0, 3), (1, 2), (2, 3)]
def s4 : St := ⟨[-1, 0, 4, 6], [0, 1, 2, 3], [0, 1, 2, 3], [0, 3, 4, 6]⟩

theorem val4 : Si.Val (4 : Nat) es4 := by
  refine ⟨by decide, by decide, by decide, fun j p hj => ?_, fun j p q hp hq => ?_⟩
  · match j, hj with
    | 0, hj => cases hj; unfold Si.ok; decide
    | 1, hj => cases hj; unfold Si.ok; decide
    | 2, hj => cases hj; unfold Si.ok; decide
    | 3, hj => cases hj; unfold Si.ok; decide
  · match j, hp, hq with
    | 0, hp, hq => cases hp; cases hq; unfold Si.lt; decide
    | 1, hp, hq => cases hp; cases hq; unfold Si.lt; decide
    | 2, hp, hq => cases hp; cases hq; unfold Si.lt; decide

theorem way4 : IsWay es4 s4 [3, 2, 1, 0] := ⟨by decide, by decide, by decide, by decide, by decide, by decide, by decide, by decide, trivial⟩

theorem vf4 : VF 4 es4 s4 := by
  refine ⟨by unfold Lens; decide, by unfold Once; decide, fun v hv => ?_, ⟨_, rfl⟩, fun e he => ?_⟩
  · match v, hv with
    | 0, _ => exact .inl (by decide)
    | 1, _ => exact .inr ⟨0, by decide, by decide, by decide, by decide, by decide⟩
    | 2, _ => exact .inr ⟨4, by decide, by decide, by decide, by decide, by decide⟩
    | 3, _ => exact .inr ⟨6, by decide, by decide, by decide, by decide, by decide⟩
  · match e, he with
    | 0, _ => exact ⟨0, .inl rfl, by decide, .inl (by decide)⟩
    | 1, _ => exact ⟨3, .inr rfl, by decide, .inr ⟨_, way4, by decide⟩⟩
    | 2, _ => exact ⟨4, .inl rfl, by decide, .inl (by decide)⟩
    | 3, _ => exact ⟨6, .inl rfl, by decide, .inl (by decide)⟩

theorem isvf4 : IsVF 4 es4 s4 := ⟨4, rfl, val4, vf4⟩

theorem isRet_tree {e b : Nat} (h : tree es4 s4 b = true) : isRet es4 s4 e b = false := by simp [isRet, h]
theorem isRet_one (e : Nat) : isRet es4 s4 e 1 = true ↔ ht es4 s4 1 < hf es4 s4 e ∧ ((go_ es4 s4 e : Nat) : Int) ∈ [(3 : Int), 2, 1, 0] := by
  have h1 : tree es4 s4 1 = false := by decide
  have h3 : ((fr es4 s4 1 : Nat) : Int) = 3 := by decide
  simp only [isRet, h1, h3, Bool.not_false, Bool.true_and, Bool.and_eq_true, decide_eq_true_iff]
  rw [Anc.iff way4]

theorem rets_of {e : Nat} (ht' : tree es4 s4 e = true) : rets es4 s4 e = if isRet es4 s4 e 1 = true then [1] else [] := by
  have h0 : isRet es4 s4 e 0 = false := isRet_tree (by decide)
  have h2 : isRet es4 s4 e 2 = false := isRet_tree (by decide)
  have h3 : isRet es4 s4 e 3 = false := isRet_tree (by decide)
  unfold rets
  rw [if_pos ht']
  show (List.range 4).filter _ = _
  rw [show List.range 4 = [0, 1, 2, 3] from rfl]
  cases h1 : isRet es4 s4 e 1 <;> simp [h0, h1, h2, h3]

theorem rets0 : rets es4 s4 0 = [] := by
  rw [rets_of (by decide), if_neg (by rw [isRet_one]; decide)]
theorem rets1 : rets es4 s4 1 = [1] := rets_back (by decide)
theorem rets2 : rets es4 s4 2 = [1] := by
  rw [rets_of (by decide), if_pos (by rw [isRet_one]; decide)]
theorem rets3 : rets es4 s4 3 = [1] := by
  rw [rets_of (by decide), if_pos (by rw [isRet_one]; decide)]

theorem low4 : upTo (low es4 s4) 4 = [0, 0, 0, 0] := by
  show [low es4 s4 0, low es4 s4 1, low es4 s4 2, low es4 s4 3] = _
  unfold low hs
  rw [rets0, rets1, rets2, rets3]
  decide
theorem low24 : upTo (low2 es4 s4) 4 = [0, 3, 1, 2] := by
  show [low2 es4 s4 0, low2 es4 s4 1, low2 es4 s4 2, low2 es4 s4 3] = _
  unfold low2 low hs
  rw [rets0, rets1, rets2, rets3]
  decide
theorem nest4 : nest es4 s4 0 = 0 ∧ nest es4 s4 1 = 0 ∧ nest es4 s4 2 = 0 ∧ nest es4 s4 3 = 0 := by
  unfold nest low2 low hs
  rw [rets0, rets1, rets2, rets3]
  decide
theorem out4 : outTo 4 es4 s4 4 = [[0], [4], [6], [3]] := by
  have e0 : fr es4 s4 0 = 0 := by decide
  have e1 : fr es4 s4 1 = 3 := by decide
  have e2 : fr es4 s4 2 = 1 := by decide
  have e3 : fr es4 s4 3 = 2 := by decide
  simp only [outTo, e0, e1, e2, e3]
  simp [put, fst, snd, s4, List.replicate, at_]

/-- What Of answers of it, and Returns of edge 2. -/
theorem lowIs4 {A1 A2 A3 : List Int} {ls : List (List Int)} {z : Int} (h : LowIs 4 es4 s4 A1 A2 A3 ls z) : A1 = [0, 0, 0, 0] ∧ A2 = [0, 3, 1, 2] ∧ ls = [[0], [4], [6], [3]] ∧ z = 0 ∧ A3 = upTo (nest es4 s4) 4 := by
  obtain ⟨h1, h2, h3, h4, h5⟩ := h.unique (.inr (.inr ⟨4, rfl, val4, vf4, rfl, rfl, rfl, rfl, rfl⟩))
  exact ⟨h1.trans low4, h2.trans low24, h4.trans out4, h5, h3⟩
theorem retIs4 {l : List Nat} {z : Int} (h : RetIs 4 es4 s4 2 l z) : l = [1] ∧ z = 0 := by
  obtain ⟨h1, h2⟩ := h.unique (.inr (.inr (.inr ⟨2, isvf4, rfl, by decide, rfl, rfl⟩)))
  exact ⟨h1.trans rets2, h2⟩

end Lo
end Go.Proofs.YtmgoahbloppdmaaGreat

/-
  A region that draws its order and whose operations only read, calls among them that only make memory: one walk serves every order.
-/
namespace Go.Proofs.YtmgoahbloppdmaaGreat
open Go.RowKit

/-- A world in which there is w, and more. -/
structure LW (w : World) where
  val : World
  h : Below w.heap.size w val

theorem LW.any (w : World) : Nonempty (LW w) := ⟨⟨w, Below.refl _ _⟩⟩

theorem wp_region_lw {P : Program} {id : Nat} {Q : Exit → Act → World → Prop} {a : Act} {w : World} {l : List Oper} (hm : P.follows .mixedOrders = true) (hB : Region.lexB .any l.toArray = true)
    (h : wpQuiet P l.toArray (fun w' => ∃ D : LW w, w' = D.val) (fun a' => ∀ w', (∃ D : LW w, w' = D.val) → Q .normal a' w') l a) : (Code.region id l.toArray true).wp P Q a w :=
  wp_region_quiet (C := fun w' => ∃ D : LW w, w' = D.val) hm hB ⟨⟨w.drew, (Below.refl _ _).drew⟩, rfl⟩ (by simpa using h)

theorem Calls.lw {P : Program} {f : FuncId} {args : Array Value} {w : World} {D : LW w} {v : Value}
    (h : Calls P f args D.val fun e w' => e = .returned v ∧ Below D.val.heap.size D.val w') : Calls P f args D.val fun e w'' => e = .returned v ∧ ∃ D' : LW w, w'' = D'.val :=
  h.mono fun _ w' ⟨he, hb⟩ => ⟨he, ⟨w', D.h.trans (hb.mono D.h.size)⟩, rfl⟩

end Go.Proofs.YtmgoahbloppdmaaGreat
