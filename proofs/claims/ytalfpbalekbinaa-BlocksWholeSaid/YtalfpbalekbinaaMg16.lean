import Derived.Test.YtalfpbalekbinaaMg06
import Derived.Test.YtalfpbalekbinaaMg07
import Derived.Test.YtalfpbalekbinaaMg15
import Derived.Deep.RegionHeld3
import Derived.Deep.QuietTactic
import Derived.BigQuiet
import Derived.Test.YtalfpbalekbinaaMg12
import Derived.Test.YtalfpbalekbinaaMg13
import Derived.Maps.RangeWalk
import Derived.Test.YtalfpbalekbinaaMg00
/-
  What an Adj answers: First, After.
-/
namespace Go.Proofs.Ytalfpbalekbinaa
open Go.RowKit

/-- What First answers. -/
def Cs.firstI (n : Nat) (es : List (Int × Int)) (x : Int) : Int := (Cs.outZ n es x).getD 0 (-1)

set_option maxRecDepth 100000 in
set_option maxHeartbeats 4000000 in
theorem first_any (v : Value) (n : Nat) (es : List (Int × Int)) (x : Int) (w : World) (h : IsAdj w v n es) : Calls Try.prog 74 #[v, .int .i64 x] w fun e w' => e = .returned (.int .i64 (Cs.firstI n es x)) ∧ ∃ k, w' = w.drewN k := by
  have HL := Nu.hid (leaving_any v n es x w w h (Below.refl _ _))
  clear h
  unfold Cs.firstI
  cases hL : Cs.outZ n es x with
  | nil =>
    have HL2 : Hid (Calls Try.prog 97 #[v, .int .i64 x] w fun e w' => ∃ ao cap, e = .returned (.slice ao 0 cap) ∧ ∃ k, w' = w.drewN k) := HL.out.mono (by
      rintro e w' ⟨ao, cap, h1, _, h3⟩
      rw [hL] at h1
      exact ⟨ao, cap, h1, h3⟩)
    clear HL hL
    go_enter Try.func74, Try.ntmps74
    go_wp2_with (go_at_call 97; refine HL2.out.mono ?_; rintro e w1 ⟨ao, cap, rfl, k, rfl⟩)
    go_ret
    exact ⟨rfl, k, rfl⟩
  | cons z L =>
    have HL2 : Hid (Calls Try.prog 97 #[v, .int .i64 x] w fun e w' => ∃ b o cap k, e = .returned (.slice (some ⟨b, o, none⟩) (L.length + 1) cap) ∧ w.cell? ⟨b, o, none⟩ = some (.int .i64 z) ∧ w' = w.drewN k) := HL.out.mono (by
      rintro e w' ⟨ao, cap, h1, h2, k, h3⟩
      rw [hL] at h1 h2
      obtain ⟨b, o, rfl, h4⟩ := h2 0 z rfl
      exact ⟨b, o, cap, k, h1, h4, h3⟩)
    have hne : ((L.length : Int) + 1 == 0) = false := by simp; omega
    clear HL hL
    go_enter Try.func74, Try.ntmps74
    go_wp2_with (go_at_call 97; refine HL2.out.mono ?_; rintro e w1 ⟨b, o, cap, k, rfl, hc, rfl⟩)
    go_ret
    exact ⟨rfl, k, rfl⟩

/-- What After answers. -/
def Cs.afterI (n : Nat) (es : List (Int × Int)) (x : Int) : Int :=
  if 0 ≤ x ∧ x < 2 * (es.length : Int) then (Cs.outZ n es (Cs.fr es x.toNat)).getD ((Cs.out es (Cs.fr es x.toNat) x.toNat).length + 1) (-1) else -1

theorem Cs.afterI_no {n : Nat} {es : List (Int × Int)} {x : Int} (h : ¬ (0 ≤ x ∧ x < 2 * (es.length : Int))) : Cs.afterI n es x = -1 := by unfold Cs.afterI; rw [if_neg h]

set_option maxRecDepth 100000 in
set_option maxHeartbeats 4000000 in
theorem after_any (v : Value) (n : Nat) (es : List (Int × Int)) (x : Int) (w : World) (h : IsAdj w v n es) : Calls Try.prog 89 #[v, .int .i64 x] w fun e w' => e = .returned (.int .i64 (Cs.afterI n es x)) ∧ ∃ k, w' = w.drewN k := by
  have HV := Nu.hid (hasHalf_any v n es x w h)
  have HF := Nu.hid (from_any v n es x w h)
  by_cases hx : 0 ≤ x ∧ x < 2 * (es.length : Int)
  · rw [decide_eq_true hx] at HV
    rcases h with ⟨rfl, rfl, rfl⟩ | ⟨B, p, rfl, hv, gd, gs, gh, gp, gt, h⟩
    · simp at hx; omega
    · obtain ⟨i, rfl⟩ : ∃ u : Nat, x = (u : Int) := ⟨x.toNat, by omega⟩
      have hi : i < 2 * es.length := by omega
      have hlt : ∀ i, i < 2 * es.length → Cs.fr es i < n := fun i hi => (Cs.half_lt hv hi).1
      have hul := hlt i hi
      rw [Cs.frI_in hi] at HF
      have ea : Cs.afterI n es i = (Cs.outZ n es (Cs.fr es i)).getD ((Cs.out es (Cs.fr es i) i).length + 1) (-1) := by
        unfold Cs.afterI
        rw [if_pos hx, Int.toNat_natCast]
      rw [ea]
      have hle := Cs.st_le hlt hul
      have hol := Cs.out_lt (es := es) (k := 2 * es.length) hi rfl
      have hfew := hv.few
      have c0 := h.blk.c0
      have c1 := h.blk.c1
      have c2 := h.blk.c2
      have c3 := h.blk.c3
      have d0 := h.deg _ hul
      have d1 := h.start _ hul
      have d3 := h.place i hi
      have hhalf := h.half
      have hpos : Cs.pos es (2 * es.length) i = Cs.st es (2 * es.length) (Cs.fr es i) + (Cs.out es (Cs.fr es i) i).length := rfl
      rw [hpos] at d3
      obtain ⟨j, hj⟩ : ∃ j, (Cs.out es (Cs.fr es i) i).length = j := ⟨_, rfl⟩
      rw [hj] at d3 hol ⊢
      have hnx : ∀ (q : Nat), (Cs.out es (Cs.fr es i) (2 * es.length))[j + 1]? = some q → w.cell? ⟨gh, Cs.st es (2 * es.length) (Cs.fr es i) + (j + 1), none⟩ = some (.int .i64 (q : Int)) := fun q hq => by
        obtain ⟨h1, h2, h3⟩ := Cs.out_of hq
        have := hhalf q h1
        unfold Cs.pos at this
        rw [h2, h3] at this
        exact this
      unfold Cs.outZ
      rw [List.getD_eq_getElem?_getD, List.getElem?_map, Cs.outI_in hul]
      obtain ⟨f, hf⟩ : ∃ f, Cs.fr es i = f := ⟨_, rfl⟩
      rw [hf] at HF hle hol d0 d1 d3 hnx hul ⊢
      obtain ⟨O, hO⟩ : ∃ O, Cs.out es f (2 * es.length) = O := ⟨_, rfl⟩
      rw [hO] at hle hol d0 hnx ⊢
      obtain ⟨s, hs⟩ : ∃ s, Cs.st es (2 * es.length) f = s := ⟨_, rfl⟩
      rw [hs] at hle d1 d3 hnx
      have z0 : (0 : Int) ≤ (i : Int) := by omega
      have z1 : (i : Int) < 2 * (es.length : Int) := by omega
      have z2 : (0 : Int) ≤ (f : Int) := by omega
      have z3 : (f : Int) < (n : Int) := by omega
      clear h hv hlt hhalf hf hO hs hj ea hpos hx
      by_cases hlast : j + 1 = O.length
      · have hge : O[j + 1]? = none := List.getElem?_eq_none (by omega)
        rw [hge]
        have he : ((s : Int) + (j : Int) + 1 == (s : Int) + (O.length : Int)) = true := by simp; omega
        clear hnx hge
        go_enter Try.func89, Try.ntmps89
        go_wp2_with (first | (go_at_call 78; refine HV.out.mono ?_; rintro e w1 ⟨rfl, rfl⟩) | (go_at_call 57; refine HF.out.mono ?_; rintro e w1 ⟨rfl, rfl⟩))
        go_quiet (fail)
        go_wp2
        go_ret
        exact ⟨rfl, _, rfl⟩
      · obtain ⟨q, hq⟩ : ∃ q, O[j + 1]? = some q := ⟨_, List.getElem?_eq_getElem (by omega)⟩
        have hc := hnx q hq
        rw [hq]
        have he : ((s : Int) + (j : Int) + 1 == (s : Int) + (O.length : Int)) = false := by simp; omega
        have z4 : (0 : Int) ≤ (s : Int) + (j : Int) + 1 := by omega
        have z5 : (s : Int) + (j : Int) + 1 < 2 * (es.length : Int) := by omega
        have z6 : ((s : Int) + (j : Int) + 1).toNat = s + (j + 1) := by omega
        clear hnx hq
        go_enter Try.func89, Try.ntmps89
        go_wp2_with (first | (go_at_call 78; refine HV.out.mono ?_; rintro e w1 ⟨rfl, rfl⟩) | (go_at_call 57; refine HF.out.mono ?_; rintro e w1 ⟨rfl, rfl⟩))
        go_quiet (fail)
        go_wp2
        go_ret
        exact ⟨rfl, _, rfl⟩
  · rw [decide_eq_false hx] at HV
    rw [Cs.afterI_no hx]
    clear h hx HF
    go_enter Try.func89, Try.ntmps89
    go_wp2_with (go_at_call 78; refine HV.out.mono ?_; rintro e w1 ⟨rfl, rfl⟩)
    go_ret
    exact ⟨rfl, 0, rfl⟩

end Go.Proofs.Ytalfpbalekbinaa

/-
  A forest held against a graph: numbers of its lists; answers of yes or no.
-/
namespace Go.Proofs.Ytalfpbalekbinaa
open Go.RowKit

theorem bel_a {w V : World} (h : Below w.heap.size w V) (o : Obj) : Below w.heap.size w (V.alloc o) := h.alloc h.size o
theorem bel_d {w V : World} (h : Below w.heap.size w V) : Below w.heap.size w V.drew := h.drew

/-- A number of one of the lists. -/
theorem lst_at {w : World} {ao : Option Addr} {k ca : Nat} {l : List Int} (h : Lst w ao k ca l) {i : Nat} (hi : i < k) : ∃ b o, ao = some ⟨b, o, none⟩ ∧ w.cell? ⟨b, o + i, none⟩ = some (.int .i64 (l.getD i (-1))) := h.ints i _ (getD_of (-1) (by rw [h.len]; exact hi))

/-- An answer of yes or no. -/
def BoolPost (P : Prop) (w : World) (e : Ending) (w' : World) : Prop := ∃ b, e = .returned (.bool b) ∧ (b = true ↔ P) ∧ Below w.heap.size w w'

end Go.Proofs.Ytalfpbalekbinaa

/-
  The finder in memory: its stack, its way, the blocks that it has found.
-/
namespace Go.Proofs.Ytalfpbalekbinaa
open Go.RowKit

theorem Try.infoHeld : (Try.prog.info? 119).map (fun i => (i.zero, i.size, i.bytes)) = some (some (.agg #[.int .i64 0, .int .i64 0]), 2, 16) := by kernel_rfl

namespace Bl
def prs (S : List (Nat × Int)) : List (Int × Int) := S.map fun q => ((q.1 : Int), q.2)
theorem prs_length (S : List (Nat × Int)) : (prs S).length = S.length := by simp [prs]
theorem prs_at {S : List (Nat × Int)} {a t : Nat} {l : Int} (h : S[a]? = some (t, l)) : (prs S)[a]? = some ((t : Int), l) := by
  unfold prs
  rw [List.getElem?_map, h]
  rfl
/-- The least of a list. -/
def mn : List Nat → Nat
  | [] => 0
  | [a] => a
  | a :: b :: l => min a (mn (b :: l))
theorem mn_mem : ∀ {l : List Nat}, l ≠ [] → mn l ∈ l
  | [], h => absurd rfl h
  | [a], _ => by simp [mn]
  | a :: b :: l, _ => by
    have ih := mn_mem (l := b :: l) (by simp)
    unfold mn
    rcases Nat.le_total a (mn (b :: l)) with h | h
    · rw [Nat.min_eq_left h]; simp
    · rw [Nat.min_eq_right h]; exact List.mem_cons_of_mem _ ih
theorem mn_le : ∀ {l : List Nat}, ∀ x ∈ l, mn l ≤ x
  | [], x, h => by simp at h
  | [a], x, h => by
    have : x = a := by simpa using h
    simp [mn, this]
  | a :: b :: l, x, h => by
    have ih := mn_le (l := b :: l)
    unfold mn
    rcases List.mem_cons.1 h with rfl | h
    · exact Nat.min_le_left _ _
    · exact Nat.le_trans (Nat.min_le_right _ _) (ih x h)
theorem mn_eq {l : List Nat} {x : Nat} (hx : x ∈ l) (h : ∀ y ∈ l, x ≤ y) : mn l = x := Nat.le_antisymm (mn_le x hx) (h _ (mn_mem (fun e => by rw [e] at hx; cases hx)))
end Bl

/-- v is the stack S, in memory of its own. -/
def OwnH (w : World) (B : Nat) (v : Value) (S : List (Nat × Int)) : Prop := w.ownsRow B 119 2 v S.length (flatE (Bl.prs S))

section
variable {w w' : World} {B : Nat} {v : Value} {S : List (Nat × Int)}
theorem OwnH.nil (w : World) (B : Nat) : OwnH w B (.slice none 0 0) [] := World.ownsRow_nil _ _ _ _
theorem OwnH.same (h : OwnH w B v S) (hb : ∀ g, v.ownBlock = some g → g < w.heap.size → w'.heap[g]? = w.heap[g]?) : OwnH w' B v S := by
  refine ⟨h.1, ?_⟩
  rcases h.2 with h | ⟨g, cap, cur, e1, hgB, hh, hr⟩
  · exact .inl h
  · exact .inr ⟨g, cap, cur, e1, hgB, (hb g (by rw [e1]; rfl) (lt_of_block hh)).trans hh, hr⟩
theorem OwnH.lt (h : OwnH w B v S) {g : Nat} (hg : v.ownBlock = some g) : B ≤ g ∧ g < w.heap.size := World.ownsRow.lt h g hg
/-- One of the stack. -/
theorem OwnH.row (h : OwnH w B v S) {a t : Nat} {l : Int} (hl : S[a]? = some (t, l)) : ∃ g c cur, v = .slice (some ⟨g, 0, none⟩) S.length c ∧ S.length ≤ c ∧ w.heap[g]? = some (.cells cur 119 (0, 0)) ∧ c ≤ maxLen ∧ cur.size = c * 2 ∧ cur.toList.take (S.length * 2) = flatE (Bl.prs S) ∧ B ≤ g ∧ g < w.heap.size := by
  have hal := (List.getElem?_eq_some_iff.1 hl).1
  rcases h.2 with ⟨_, h0⟩ | ⟨g, cap, cur, e1, hgB, hh, hc, hm, hs, ht⟩
  · omega
  · exact ⟨g, cap, cur, e1, hc, hh, hm, hs, ht, hgB, lt_of_block hh⟩
theorem row_cells {g k : Nat} {cur : Array Value} (hh : w.heap[g]? = some (.cells cur 119 (0, 0))) (hk : k = S.length * 2) (ht : cur.toList.take k = flatE (Bl.prs S)) {a t : Nat} {l : Int} (hl : S[a]? = some (t, l)) : w.cell? ⟨g, a * 2, none⟩ = some (.int .i64 (t : Int)) ∧ w.cell? ⟨g, a * 2 + 1, none⟩ = some (.int .i64 l) := by
  have hal := (List.getElem?_eq_some_iff.1 hl).1
  obtain ⟨h0, h1⟩ := flatE_at _ a _ (Bl.prs_at hl)
  rw [← ht, List.getElem?_take_of_lt (by omega)] at h0 h1
  simp only [Array.getElem?_toList] at h0 h1
  simp [World.cell?, hh, h0, h1]
theorem flatE_set : ∀ (ps : List (Int × Int)) (a : Nat) (x y z : Int), ps[a]? = some (x, y) → flatE (ps.set a (x, z)) = (flatE ps).set (a * 2 + 1) (.int .i64 z)
  | [], a, x, y, z, h => by simp at h
  | p :: ps, 0, x, y, z, h => by
    have : p = (x, y) := by simpa using h
    subst this
    simp [flatE]
  | p :: ps, a + 1, x, y, z, h => by
    have ih := flatE_set ps a x y z (by simpa using h)
    have e : (a + 1) * 2 + 1 = (a * 2 + 1) + 1 + 1 := by omega
    rw [e]
    simpa [flatE] using ih
theorem flatE_take : ∀ (ps : List (Int × Int)) (a : Nat), flatE (ps.take a) = (flatE ps).take (a * 2)
  | [], a => by simp [flatE]
  | p :: ps, 0 => by simp [flatE]
  | p :: ps, a + 1 => by
    have := flatE_take ps a
    rw [show (a + 1) * 2 = a * 2 + 1 + 1 by omega]
    simpa [flatE] using this
theorem prs_set (S : List (Nat × Int)) (a t : Nat) (z : Int) : Bl.prs (S.set a (t, z)) = (Bl.prs S).set a ((t : Int), z) := by
  unfold Bl.prs
  rw [List.map_set]
/-- A low is written. -/
theorem OwnH.put (h : OwnH w B v S) {a t g c : Nat} {l z : Int} (hl : S[a]? = some (t, l)) (hv : v = .slice (some ⟨g, 0, none⟩) S.length c) : OwnH (w.setCell ⟨g, a * 2 + 1, none⟩ (.int .i64 z)) B v (S.set a (t, z)) := by
  obtain ⟨g', c', cur, e, hc, hh, hm, hs, ht, hB, _⟩ := h.row hl
  rw [hv] at e
  cases e
  have hal := (List.getElem?_eq_some_iff.1 hl).1
  refine ⟨?_, .inr ⟨g, c, cur.setIfInBounds (a * 2 + 1) (.int .i64 z), ?_, hB, heap_setCell_same w g _ _ _ _ hh, ?_, hm, by simpa using hs, ?_⟩⟩
  · rw [flatE_length, Bl.prs_length]
  · rw [hv, List.length_set]
  · rw [List.length_set]; exact hc
  · rw [List.length_set, prs_set, flatE_set _ a _ _ _ (Bl.prs_at hl), ← ht, Array.toList_setIfInBounds, List.take_set]
/-- The stack is cut. -/
theorem OwnH.cut (h : OwnH w B v S) {a g c : Nat} (ha : a ≤ S.length) (hv : v = .slice (some ⟨g, 0, none⟩) S.length c) : OwnH w B (.slice (some ⟨g, 0, none⟩) a c) (S.take a) := by
  rcases h.2 with ⟨e, _⟩ | ⟨g', c', cur, e, hB, hh, hc, hm, hs, ht⟩
  · rw [hv] at e; cases e
  rw [hv] at e
  cases e
  have hl : (S.take a).length = a := by simp; omega
  refine ⟨by rw [flatE_length, Bl.prs_length], .inr ⟨g, c, cur, by rw [hl], hB, hh, by omega, hm, hs, ?_⟩⟩
  have e1 : flatE (Bl.prs (S.take a)) = (flatE (Bl.prs S)).take (a * 2) := by
    have : Bl.prs (S.take a) = (Bl.prs S).take a := by unfold Bl.prs; rw [List.map_take]
    rw [this, flatE_take]
  rw [hl, e1, ← ht, List.take_take, Nat.min_eq_left (by omega)]
end

/-- A map's elements as they are. -/
def rawE (v : Value) : Option (DataW Value × List MemPlace) := some (.held v, [])

/-- What doesn't turn while the finder goes: rows lie from block B on, the finder is block p, the map block mb. -/
structure Fx where
  B : Nat
  p : Nat
  mb : Nat
  av : Value
  n : Nat
  es : List (Int × Int)
  f : For
  s : Df.St

structure Fx.Ok (x : Fx) (w0 : World) : Prop where
  adj : IsAdj w0 x.av x.n x.es
  val : Si.Val x.n x.es
  lst : LstF w0 x.f x.s
  vf : Df.VF x.n x.es x.s
  l1 : w0.heap.size ≤ x.mb
  l2 : w0.heap.size ≤ x.p
  l3 : x.mb < x.B
  l4 : x.p < x.B
  l5 : x.mb ≠ x.p

abbrev Fx.cells (x : Fx) (sv yv : Value) : Array Value := #[x.av, .slice x.f.a1 x.n x.f.c1, .slice x.f.a2 x.n x.f.c2, .slice x.f.a3 x.n x.f.c3, .slice x.f.a4 x.es.length x.f.c4, sv, yv, .map (some x.mb)]

structure FinIn (x : Fx) (w0 w : World) (sv yv : Value) (D : DataW Value) (G : Nat → Prop) (S : List (Nat × Int)) (Y : List Nat) (F : List (List Nat)) : Prop where
  ok : x.Ok w0
  below : Below w0.heap.size w0 w
  size : x.B ≤ w.heap.size
  blk : w.heap[x.p]? = some (.cells (x.cells sv yv) 81 (0, 0))
  stk : OwnH w x.B sv S
  way : OwnZ w x.B yv (Y.map Nat.cast)
  ne : sv.ownBlock = none ∨ sv.ownBlock ≠ yv.ownBlock
  map : w.ownsMap Try.prog 3 rawE x.mb F.length D
  keys : ∀ kl, Maps.has D kl = true ↔ ∃ L ∈ F, kl = .int .i64 (Bl.mn L : Int)
  rows : ∀ L ∈ F, ∃ g, D.atKey (.int .i64 (Bl.mn L : Int)) .nil = .held (.slice (some ⟨g, 0, none⟩) L.length L.length) ∧ x.B ≤ g ∧ G g ∧ IntsBlk w g (L.map Nat.cast)
  far : ∀ g, G g → g < w.heap.size ∧ sv.ownBlock ≠ some g ∧ yv.ownBlock ≠ some g

/-- The blocks that may be written while the map stands. -/
abbrev FinW (x : Fx) (sv yv : Value) (k : Nat) : Prop := k = x.p ∨ sv.ownBlock = some k ∨ yv.ownBlock = some k

section
variable {x : Fx} {w0 w w' : World} {sv yv : Value} {D : DataW Value} {G : Nat → Prop} {S : List (Nat × Int)} {Y : List Nat} {F : List (List Nat)}

theorem FinIn.plt (h : FinIn x w0 w sv yv D G S Y F) : x.p < w.heap.size := lt_of_block h.blk
theorem FinIn.sfar (h : FinIn x w0 w sv yv D G S Y F) {k : Nat} (hk : k < x.B) : sv.ownBlock ≠ some k := fun e => by have := (h.stk.lt e).1; omega
theorem FinIn.yfar (h : FinIn x w0 w sv yv D G S Y F) {k : Nat} (hk : k < x.B) : yv.ownBlock ≠ some k := fun e => by have := (World.ownsRow.lt h.way _ e).1; omega
theorem FinIn.cells (h : FinIn x w0 w sv yv D G S Y F) {i : Nat} {u : Value} (hu : (x.cells sv yv)[i]? = some u) : w.cell? ⟨x.p, i, none⟩ = some u ∧ w.frozen? ⟨x.p, i, none⟩ = false := by
  simp only [World.cell?, World.frozen?, h.blk]
  exact ⟨by simpa using hu, by simp⟩

/-- Written are the finder's own cells and rows alone. -/
theorem FinIn.turn (h : FinIn x w0 w sv yv D G S Y F) {sv' yv' : Value} {S' : List (Nat × Int)} {Y' : List Nat} (hw : Wrote (FinW x sv yv) w w') (hblk : w'.heap[x.p]? = some (.cells (x.cells sv' yv') 81 (0, 0))) (hs : OwnH w' x.B sv' S') (hy : OwnZ w' x.B yv' (Y'.map Nat.cast)) (hne : sv'.ownBlock = none ∨ sv'.ownBlock ≠ yv'.ownBlock)
    (h1 : sv'.ownBlock = sv.ownBlock ∨ ∃ g, sv'.ownBlock = some g ∧ w.heap.size ≤ g) (h2 : yv'.ownBlock = yv.ownBlock ∨ ∃ g, yv'.ownBlock = some g ∧ w.heap.size ≤ g) : FinIn x w0 w' sv' yv' D G S' Y' F := by
  have hok := h.ok
  have hbel : Below w0.heap.size w w' := hw.below h.below.size (fun k hk => by
    rcases hk with rfl | e | e
    · exact hok.l2
    · have h1 := (h.stk.lt e).1; have h2 := hok.l2; have h3 := hok.l4; omega
    · have h1 := (World.ownsRow.lt h.way _ e).1; have h2 := hok.l2; have h3 := hok.l4; omega)
  have hmb : w'.heap[x.mb]? = w.heap[x.mb]? := hw.block _ h.map.lt (fun hk => by
    rcases hk with e | e | e
    · exact hok.l5 e
    · exact h.sfar hok.l3 e
    · exact h.yfar hok.l3 e)
  refine ⟨hok, h.below.trans hbel, Nat.le_trans h.size hw.size, hblk, hs, hy, hne, ?_, h.keys, fun L hL => ?_, fun g hg => ?_⟩
  · obtain ⟨es, ck, e, r⟩ := h.map
    exact ⟨es, ck, hmb.trans e, r⟩
  · obtain ⟨g, e, hB, hG, hi⟩ := h.rows L hL
    refine ⟨g, e, hB, hG, (hw.block g hi.lt (fun hk => ?_)).trans hi⟩
    rcases hk with e1 | e1 | e1
    · have := hok.l4; omega
    · exact (h.far g hG).2.1 e1
    · exact (h.far g hG).2.2 e1
  · obtain ⟨a, b, c⟩ := h.far g hg
    refine ⟨Nat.lt_of_lt_of_le a hw.size, ?_, ?_⟩
    · rcases h1 with e | ⟨k, e, hk⟩
      · rw [e]; exact b
      · rw [e]; intro e2; have := Option.some.inj e2; omega
    · rcases h2 with e | ⟨k, e, hk⟩
      · rw [e]; exact c
      · rw [e]; intro e2; have := Option.some.inj e2; omega
theorem FinIn.later (h : FinIn x w0 w sv yv D G S Y F) (hb : Below w.heap.size w w') : FinIn x w0 w' sv yv D G S Y F :=
  h.turn ⟨hb.os, hb.tape, hb.output, hb.size, fun k hk _ => hb.block k hk⟩ ((hb.block _ h.plt).trans h.blk) (h.stk.same fun g _ hl => hb.block g hl) (h.way.later hb) h.ne (.inl rfl) (.inl rfl)
end

set_option maxRecDepth 100000 in
set_option maxHeartbeats 16000000 in
theorem lower_any (x : Fx) (w0 w : World) (sv yv : Value) (D : DataW Value) (G : Nat → Prop) (S : List (Nat × Int)) (Y : List Nat) (a t : Nat) (l z : Int) (F : List (List Nat)) (h : FinIn x w0 w sv yv D G S (Y ++ [a]) F) (hl : S[a]? = some (t, l)) (hY : Y.length ≤ 4194304) :
    Calls Try.prog 94 #[.pointer (some ⟨x.p, 0, none⟩), .int .i64 z] w fun e w' => e = .returned (.tuple #[]) ∧ FinIn x w0 w' sv yv D G (S.set a (t, min l z)) (Y ++ [a]) F ∧ Wrote (fun k => sv.ownBlock = some k) w w' := by
  have H := Nu.hid h
  have hal := (List.getElem?_eq_some_iff.1 hl).1
  obtain ⟨gs, cs, cur, hsv, hcl, hh, hm, hcs, ht, hBs, hgs⟩ := h.stk.row hl
  have hw := h.way
  rw [List.map_append] at hw
  obtain ⟨gy, cy, hyv, d0, hcy, hBy, hgy⟩ := hw.row_snoc
  rw [List.length_map] at hyv d0 hcy
  obtain ⟨k0, k1⟩ := row_cells hh rfl ht hl
  have c5 : w.cell? ⟨x.p, 5, none⟩ = some sv := (h.cells (i := 5) rfl).1
  have c6 : w.cell? ⟨x.p, 6, none⟩ = some yv := (h.cells (i := 6) rfl).1
  have kf : w.frozen? ⟨gs, a * 2 + 1, none⟩ = false := by simp [World.frozen?, hh]
  rw [hsv] at c5
  rw [hyv] at c6
  have HEND : Hid (∀ q, FinIn x w0 ((w.drewN q).setCell ⟨gs, a * 2 + 1, none⟩ (.int .i64 (min l z))) sv yv D G (S.set a (t, min l z)) (Y ++ [a]) F ∧ Wrote (fun k => sv.ownBlock = some k) w ((w.drewN q).setCell ⟨gs, a * 2 + 1, none⟩ (.int .i64 (min l z)))) := by
    intro q
    have hW : Wrote (fun k => sv.ownBlock = some k) w ((w.drewN q).setCell ⟨gs, a * 2 + 1, none⟩ (.int .i64 (min l z))) := ((Wrote.refl _ w).drewN q).setCell (by rw [hsv]; rfl) _
    have hpg : x.p ≠ gs := fun e => by have := h.ok.l4; omega
    have hyg : ∀ g, yv.ownBlock = some g → g ≠ gs := fun g hg e => by
      rcases h.ne with e1 | e1
      · rw [hsv] at e1; cases e1
      · exact e1 (by rw [hg, hsv, e]; rfl)
    refine ⟨h.turn (hW.mono fun k _ hk => .inr (.inl hk)) ((heap_setCell_other (w.drewN q) ⟨gs, a * 2 + 1, none⟩ x.p _ hpg).trans h.blk) ?_ ?_ h.ne (.inl rfl) (.inl rfl), hW⟩
    · exact OwnH.put (w := w.drewN q) h.stk hl hsv
    · exact h.way.same fun g hg _ => heap_setCell_other (w.drewN q) ⟨gs, a * 2 + 1, none⟩ g _ (hyg g hg)
  obtain ⟨L, hL⟩ : ∃ L, S.length = L := ⟨_, rfl⟩
  obtain ⟨K, hK⟩ : ∃ K, Y.length = K := ⟨_, rfl⟩
  rw [hL] at c5 hal
  rw [hK] at c6 d0 hY
  clear h hw hh hsv hyv hcl hcs ht hm hBs hgs hBy hgy hcy hl H hL hK k0
  have e1 : ((K : Int) + 1) - 1 = (K : Int) := by omega
  have e2 : (0 : Int) ≤ (K : Int) := by omega
  have e3 : (K : Int) < (K : Int) + 1 := by omega
  have a0 : (0 : Int) ≤ (a : Int) := by omega
  have a1 : (a : Int) < (L : Int) := by omega
  by_cases hz : z < l
  · have em : min l z = z := by omega
    rw [em] at HEND
    rw [em]
    clear em
    go_enter Try.func94, Try.ntmps94
    go_wp2_with fail
    go_quiet (fail)
    go_wp2_with fail
    go_big_region
    go_wp2
    go_end0
    exact ⟨rfl, HEND.out _⟩
  · have em : min l z = l := by omega
    rw [em] at HEND
    rw [em]
    clear em
    go_enter Try.func94, Try.ntmps94
    go_wp2_with fail
    go_quiet (fail)
    go_wp2_with fail
    go_big_region
    go_wp2
    go_end0
    exact ⟨rfl, HEND.out _⟩

end Go.Proofs.Ytalfpbalekbinaa

/-
  slices.Min of ints.
-/
namespace Go.Proofs.Ytalfpbalekbinaa
open Go.RowKit

/-- m is the least of the first k. -/
def Bl.Min (l : List Int) (k : Nat) (m : Int) : Prop := (∃ j, j < k ∧ l[j]? = some m) ∧ ∀ (j : Nat) (z : Int), j < k → l[j]? = some z → m ≤ z

theorem Bl.Min.more {l : List Int} {k : Nat} {m y : Int} (h : Bl.Min l k m) (hy : l[k]? = some y) : Bl.Min l (k + 1) (if y < m then y else m) := by
  obtain ⟨⟨j, hj, e⟩, h2⟩ := h
  by_cases c : y < m
  · rw [if_pos c]
    refine ⟨⟨k, by omega, hy⟩, fun i z hi hz => ?_⟩
    by_cases hk : i = k
    · subst hk; rw [hy] at hz; cases hz; exact Int.le_refl _
    · have := h2 i z (by omega) hz; omega
  · rw [if_neg c]
    refine ⟨⟨j, by omega, e⟩, fun i z hi hz => ?_⟩
    by_cases hk : i = k
    · subst hk; rw [hy] at hz; cases hz; omega
    · exact h2 i z (by omega) hz
theorem Bl.Min.mn {L : List Nat} {m : Int} (h : Bl.Min (L.map Nat.cast) L.length m) : m = (Bl.mn L : Int) := by
  obtain ⟨⟨j, hj, e⟩, h2⟩ := h
  rw [List.getElem?_map] at e
  obtain ⟨x, hx, rfl⟩ := Option.map_eq_some_iff.1 e
  rw [Bl.mn_eq (List.mem_of_getElem? hx)]
  intro y hy
  obtain ⟨i, hi⟩ := List.getElem?_of_mem hy
  have := h2 i (y : Int) (List.getElem?_eq_some_iff.1 hi).1 (by rw [List.getElem?_map, hi]; rfl)
  omega

set_option maxRecDepth 100000 in
set_option maxHeartbeats 4000000 in
theorem min_any (ao : Option Addr) (ca n : Nat) (l : List Int) (w : World) (hn : l.length = n) (h0 : 0 < n) (hl : n ≤ 17592186043904) (ha : IntsAt w ao l) :
    Calls Try.prog 115 #[.slice ao n ca] w fun e w' => ∃ m, e = .returned (.int .i64 m) ∧ Bl.Min l n m ∧ w' = w := by
  obtain ⟨x, hx⟩ : ∃ x, l[0]? = some x := ⟨_, List.getElem?_eq_getElem (by omega)⟩
  obtain ⟨b, o, rfl, c0⟩ := ha 0 x hx
  have HA := Nu.hid ha
  have HN := Nu.hid hn
  have HX := Nu.hid hx
  have i0 : (0 : Int) < (n : Int) := by omega
  have i1 : ¬ ((n : Int) < 1) := by omega
  rw [Nat.add_zero] at c0
  clear ha hn hx
  go_enter Try.func115, Try.ntmps115
  go_wp2
  go_loopw [3, 4] (fun mv c wr => ∃ (k : Nat) (m : Int), 0 < k ∧ k ≤ n ∧ c = .int .i64 k ∧ mv = .int .i64 m ∧ Bl.Min l k m ∧ wr = w) (fun _ c _ => n - (intOf c).toNat)
  case atStart => exact ⟨1, x, by omega, by omega, rfl, rfl, ⟨⟨0, by omega, HX.out⟩, fun j z hj hz => by
    obtain rfl : j = 0 := by omega
    rw [HX.out] at hz
    cases hz
    exact Int.le_refl _⟩, rfl⟩
  case round =>
    obtain ⟨k, m, hk0, hk, rfl, rfl, hm, rfl⟩ := hrel
    have HM := Nu.hid hm
    clear hm
    by_cases hlt : k < n
    · have hlti : (k : Int) < (n : Int) := by omega
      have hki : (0 : Int) ≤ (k : Int) := by omega
      obtain ⟨y, hy⟩ : ∃ y, l[k]? = some y := ⟨_, List.getElem?_eq_getElem (by have := HN.out; omega)⟩
      obtain ⟨b', o', e', ck⟩ := HA.out k y hy
      cases e'
      have HY := Nu.hid hy
      clear hy
      obtain ⟨q, hq⟩ : ∃ q, q = (if y < m then y else m) := ⟨_, rfl⟩
      have HQ := Nu.hid (HM.out.more HY.out)
      rw [← hq] at HQ
      go_wp2
      rw [← hq]
      go_roundw
      case rel => exact ⟨k + 1, q, by omega, by omega, by go_num, rfl, HQ.out, trivial⟩
      case measure => simp [intOf]; omega
    · have hd : ¬ ((k : Int) < (n : Int)) := by omega
      obtain rfl : k = n := by omega
      go_wp2
      go_ret
      exact ⟨m, rfl, HM.out, rfl⟩

end Go.Proofs.Ytalfpbalekbinaa
