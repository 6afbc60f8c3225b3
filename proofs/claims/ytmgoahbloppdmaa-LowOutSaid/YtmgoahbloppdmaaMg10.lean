import Derived.Test.YtmgoahbloppdmaaMg08
import Derived.Test.YtmgoahbloppdmaaMg09
import Derived.Test.YtmgoahbloppdmaaMg06
import Derived.Deep.RegionHeld3
import Derived.Deep.QuietTactic
import Derived.BigQuiet
import Derived.Test.YtmgoahbloppdmaaMg07
import Derived.Test.YtmgoahbloppdmaaMg01
/-
  Forests wherever they lie; the document's own Copy of one.
-/
namespace Go.Proofs.Ytmgoahbloppdmaa
open Go.RowKit

/-- Where the four lists of a forest lie, and how much room they have. -/
structure For where
  a1 : Option Addr
  a2 : Option Addr
  a3 : Option Addr
  a4 : Option Addr
  c1 : Nat
  c2 : Nat
  c3 : Nat
  c4 : Nat

/-- A forest, handed in or answered. -/
abbrev For.val (f : For) (s : Df.St) : Value := .agg #[.slice f.a1 s.par.length f.c1, .slice f.a2 s.hei.length f.c2, .slice f.a3 s.ord.length f.c3, .slice f.a4 s.ori.length f.c4]

/-- The four lists lie there. -/
structure LstF (w : World) (f : For) (s : Df.St) : Prop where
  l1 : Lst w f.a1 s.par.length f.c1 s.par
  l2 : Lst w f.a2 s.hei.length f.c2 s.hei
  l3 : Lst w f.a3 s.ord.length f.c3 s.ord
  l4 : Lst w f.a4 s.ori.length f.c4 s.ori
  n1 : s.par.length ≤ 17592186043904
  n2 : s.hei.length ≤ 17592186043904
  n3 : s.ord.length ≤ 17592186043904
  n4 : s.ori.length ≤ 17592186043904

theorem LstF.later {w w' : World} {f : For} {s : Df.St} (h : LstF w f s) (hb : Below w.heap.size w w') : LstF w' f s := ⟨h.l1.later hb, h.l2.later hb, h.l3.later hb, h.l4.later hb, h.n1, h.n2, h.n3, h.n4⟩

theorem OwnZ.few {w : World} {B : Nat} {v : Value} {l : List Int} (h : OwnZ w B v l) : l.length ≤ maxLen := by
  rcases h.2 with ⟨_, h0⟩ | ⟨_, _, _, _, _, _, h1, h2, _⟩
  · omega
  · omega

/-- A forest of one's own is one that lies somewhere. -/
theorem OwnF.lst {w : World} {B : Nat} {v1 v2 v3 v4 : Value} {s : Df.St} (h : OwnF w B v1 v2 v3 v4 s) (hn : s.par.length ≤ 17592186043904 ∧ s.hei.length ≤ 17592186043904 ∧ s.ord.length ≤ 17592186043904 ∧ s.ori.length ≤ 17592186043904) :
    ∃ f : For, v1 = .slice f.a1 s.par.length f.c1 ∧ v2 = .slice f.a2 s.hei.length f.c2 ∧ v3 = .slice f.a3 s.ord.length f.c3 ∧ v4 = .slice f.a4 s.ori.length f.c4 ∧ LstF w f s := by
  obtain ⟨a1, c1, e1, h1, _⟩ := h.o1.lst
  obtain ⟨a2, c2, e2, h2, _⟩ := h.o2.lst
  obtain ⟨a3, c3, e3, h3, _⟩ := h.o3.lst
  obtain ⟨a4, c4, e4, h4, _⟩ := h.o4.lst
  exact ⟨⟨a1, a2, a3, a4, c1, c2, c3, c4⟩, e1, e2, e3, e4, h1, h2, h3, h4, hn.1, hn.2.1, hn.2.2.1, hn.2.2.2⟩

/-- 'append([]int{}, xs...)', run: the empty list lies in block b. -/
theorem run_copyI (ty : TypeId) (W : World) (b : Nat) (ao : Option Addr) (n ca : Nat) (l : List Int) (hb : W.heap[b]? = some (.cells #[] 3 (0, 0))) (hr : Lst W ao n ca l) (hn : n ≤ 17592186043904) :
    ∃ g c w', (Builtin.append_ #[26, 26] ty #[.slice (some ⟨b, 0, none⟩) 0 0, .slice ao n ca]).run Try.prog W = .ok (.slice (some ⟨g, 0, none⟩) n c) w' ∧ (g = b ∨ W.heap.size ≤ g) ∧ (∀ B, B ≤ b → OwnZ w' B (.slice (some ⟨g, 0, none⟩) n c) l) ∧ g < w'.heap.size ∧ Below W.heap.size W w' := by
  obtain ⟨i0, hi, hz0, hz1, hz2⟩ := info_parts Try.infoNum
  have hlt := lt_of_block hb
  have hown0 : ∀ B, B ≤ b → W.ownsRow B 3 1 (.slice (some ⟨b, 0, none⟩) 0 0) 0 [] := fun B hB => ⟨rfl, .inr ⟨b, 0, #[], rfl, hB, hb, Nat.le_refl _, by unfold maxLen; omega, rfl, rfl⟩⟩
  by_cases h0 : n = 0
  · subst h0
    have hl : l = [] := List.length_eq_zero_iff.1 hr.len
    subst hl
    refine ⟨b, 0, W, ?_, .inl rfl, fun B hB => hown0 B hB, hlt, Below.refl _ _⟩
    cases ao with
    | none =>
      obtain ⟨_, rfl⟩ := hr.none rfl
      exact run_append_owned_none (P := Try.prog) (w := W) b 26 ty 3 i0 1 Try.underlying26 hi _ 0 [] (hown0 b (Nat.le_refl _))
    | some y =>
      have := run_append_room_cells (P := Try.prog) W 26 ty 3 i0 Try.underlying26 hi b 0 0 0 y 0 ca [] (by simp) (fun j u hj => by simp at hj) (fun u hu => by simp at hu) (Nat.le_refl _) (fun j hj => by simp at hj) (fun j hj => by simp at hj)
      rw [this]
      simp [World.setCells]
  · obtain ⟨y, hy⟩ : ∃ y, ao = some y := by
      cases ao with
      | none => exact absurd (hr.none rfl).1 h0
      | some y => exact ⟨y, rfl⟩
    subst hy
    obtain ⟨v', w', hrun, r1, r2⟩ := run_append_arg_grows (P := Try.prog) W 26 ty 3 i0 (.int .i64 0) 1 8 Try.underlying26 hi hz0 hz1 hz2 rfl (by decide) ⟨b, 0, none⟩ 0 0 [] rfl (fun j u hj => by simp at hj) y n ca (l.map (Value.int .i64)) (by rw [List.length_map, hr.len]; omega) (fun j u hj => by
      rw [List.getElem?_map] at hj
      cases hlj : l[j]? with
      | none => rw [hlj] at hj; cases hj
      | some z =>
        rw [hlj] at hj
        obtain rfl := Option.some.inj hj
        obtain ⟨b', o', e, hc⟩ := hr.ints j z hlj
        cases e
        have ea : ((⟨b', o', none⟩ : Addr).add j) = ⟨b', o' + j, none⟩ := by
          by_cases h0 : j = 0 <;> simp [Addr.add, h0]
        rw [ea]
        exact hc) (by omega) (by unfold maxLen; omega) (by omega)
    rw [Nat.zero_add, List.nil_append] at r1
    obtain ⟨k, hk⟩ : ∃ k, n = k + 1 := ⟨n - 1, by omega⟩
    rw [hk] at r1
    obtain ⟨g, c, rfl⟩ := own_succ r1
    rw [← hk] at r1 hrun
    have hg := World.ownsRow.lt r1 g rfl
    refine ⟨g, c, w', hrun, .inr hg.1, fun B hB => ?_, hg.2, ⟨r2.os, r2.tape, r2.output, r2.size, fun k hk => r2.block k hk (by simp)⟩⟩
    have : OwnZ w' W.heap.size (.slice (some ⟨g, 0, none⟩) n c) l := by
      unfold OwnZ
      rw [hr.len]
      exact r1
    exact this.lower (by omega)

end Go.Proofs.Ytmgoahbloppdmaa

/-
  A forest held against a graph: numbers of its lists; answers of yes or no.
-/
namespace Go.Proofs.Ytmgoahbloppdmaa
open Go.RowKit

theorem bel_a {w V : World} (h : Below w.heap.size w V) (o : Obj) : Below w.heap.size w (V.alloc o) := h.alloc h.size o
theorem bel_d {w V : World} (h : Below w.heap.size w V) : Below w.heap.size w V.drew := h.drew

/-- A number of one of the lists. -/
theorem lst_at {w : World} {ao : Option Addr} {k ca : Nat} {l : List Int} (h : Lst w ao k ca l) {i : Nat} (hi : i < k) : ∃ b o, ao = some ⟨b, o, none⟩ ∧ w.cell? ⟨b, o + i, none⟩ = some (.int .i64 (l.getD i (-1))) := h.ints i _ (getD_of (-1) (by rw [h.len]; exact hi))

/-- An answer of yes or no. -/
def BoolPost (P : Prop) (w : World) (e : Ending) (w' : World) : Prop := ∃ b, e = .returned (.bool b) ∧ (b = true ↔ P) ∧ Below w.heap.size w w'

end Go.Proofs.Ytmgoahbloppdmaa

/-
  What Of and Returns of layer 8 are to answer.
-/
namespace Go.Proofs.Ytmgoahbloppdmaa
open Go.RowKit

/-- Edges as numbers. -/
def zs (l : List Nat) : List Int := l.map fun b : Nat => (b : Int)

/-- What Returns is to answer: l and the code z. -/
def RetIs (n : Int) (es : List (Int × Int)) (s : Df.St) (x : Int) (l : List Nat) (z : Int) : Prop :=
  (Si.valid n es = false ∧ l = [] ∧ z = 1) ∨ (Si.valid n es = true ∧ ¬ IsVF n es s ∧ l = [] ∧ z = 80) ∨ (IsVF n es s ∧ ¬ (0 ≤ x ∧ x < (es.length : Int)) ∧ l = [] ∧ z = 2) ∨ ∃ e : Nat, IsVF n es s ∧ x = (e : Int) ∧ e < es.length ∧ l = Lo.rets es s e ∧ z = 0

theorem IsVF.valid {n : Int} {es : List (Int × Int)} {s : Df.St} (h : IsVF n es s) : Si.valid n es = true := by
  obtain ⟨m, e, hv, _⟩ := h
  rw [e]
  exact Si.valid_iff.2 hv

theorem RetIs.unique {n : Int} {es : List (Int × Int)} {s : Df.St} {x z z' : Int} {l l' : List Nat} (h : RetIs n es s x l z) (h' : RetIs n es s x l' z') : l = l' ∧ z = z' := by
  rcases h with ⟨a, b, c⟩ | ⟨a, a2, b, c⟩ | ⟨a, a2, b, c⟩ | ⟨e, a, a2, a3, b, c⟩ <;> rcases h' with ⟨a', b', c'⟩ | ⟨a', a2', b', c'⟩ | ⟨a', a2', b', c'⟩ | ⟨e', a', a2', a3', b', c'⟩
  · exact ⟨by rw [b, b'], by rw [c, c']⟩
  · rw [a] at a'; cases a'
  · rw [a'.valid] at a; cases a
  · rw [a'.valid] at a; cases a
  · rw [a] at a'; cases a'
  · exact ⟨by rw [b, b'], by rw [c, c']⟩
  · exact absurd a' a2
  · exact absurd a' a2
  · rw [a.valid] at a'; cases a'
  · exact absurd a a2'
  · exact ⟨by rw [b, b'], by rw [c, c']⟩
  · exact absurd ⟨by omega, by omega⟩ a2
  · rw [a.valid] at a'; cases a'
  · exact absurd a a2'
  · exact absurd ⟨by omega, by omega⟩ a2'
  · obtain rfl : e = e' := by omega
    exact ⟨by rw [b, b'], by rw [c, c']⟩

/-- A list of one's own and the code. -/
def RetPost (n : Int) (es : List (Int × Int)) (s : Df.St) (x : Int) (w : World) (r : Ending) (w' : World) : Prop :=
  ∃ v l z, r = .returned (.tuple #[v, .int .i64 z]) ∧ RetIs n es s x l z ∧ OwnZ w' w.heap.size v (zs l) ∧ Below w.heap.size w w'

/-- The first k, by edge. -/
def upTo (f : Nat → Int) (k : Nat) : List Int := (List.range k).map f
theorem upTo_succ (f : Nat → Int) (k : Nat) : upTo f (k + 1) = upTo f k ++ [f k] := by
  unfold upTo
  rw [List.range_succ, List.map_append]
  rfl
theorem upTo_len (f : Nat → Int) (k : Nat) : (upTo f k).length = k := by simp [upTo]
theorem upTo_at {f : Nat → Int} {k i : Nat} (h : i < k) : (upTo f k)[i]? = some (f i) := by
  unfold upTo
  rw [List.getElem?_map, List.getElem?_range h]
  rfl

/-- What Of is to answer. -/
def LowIs (n : Int) (es : List (Int × Int)) (s : Df.St) (A1 A2 A3 : List Int) (ls : List (List Int)) (z : Int) : Prop :=
  (Si.valid n es = false ∧ A1 = [] ∧ A2 = [] ∧ A3 = [] ∧ ls = [] ∧ z = 1) ∨ (Si.valid n es = true ∧ ¬ IsVF n es s ∧ A1 = [] ∧ A2 = [] ∧ A3 = [] ∧ ls = [] ∧ z = 80) ∨
  ∃ m : Nat, n = (m : Int) ∧ Si.Val m es ∧ Df.VF m es s ∧ A1 = upTo (Lo.low es s) es.length ∧ A2 = upTo (Lo.low2 es s) es.length ∧ A3 = upTo (Lo.nest es s) es.length ∧ ls = Lo.outTo m es s es.length ∧ z = 0

/-- Lists of one's own, and the code. -/
def LowPost8 (n : Int) (es : List (Int × Int)) (s : Df.St) (w : World) (r : Ending) (w' : World) : Prop :=
  ∃ v1 v2 v3 vo vs A1 A2 A3 ls z, r = .returned (.tuple #[.agg #[v1, v2, v3, vo], .int .i64 z]) ∧ LowIs n es s A1 A2 A3 ls z ∧ OwnZ w' w.heap.size v1 A1 ∧ OwnZ w' w.heap.size v2 A2 ∧ OwnZ w' w.heap.size v3 A3 ∧ RowsZ w' w.heap.size vo vs ls ∧ Below w.heap.size w w'

theorem LowIs.unique {n : Int} {es : List (Int × Int)} {s : Df.St} {A1 A2 A3 B1 B2 B3 : List Int} {ls ls' : List (List Int)} {z z' : Int} (h : LowIs n es s A1 A2 A3 ls z) (h' : LowIs n es s B1 B2 B3 ls' z') : A1 = B1 ∧ A2 = B2 ∧ A3 = B3 ∧ ls = ls' ∧ z = z' := by
  rcases h with ⟨a, b1, b2, b3, b4, b5⟩ | ⟨a, a2, b1, b2, b3, b4, b5⟩ | ⟨m, a, a2, a3, b1, b2, b3, b4, b5⟩ <;> rcases h' with ⟨a', b1', b2', b3', b4', b5'⟩ | ⟨a', a2', b1', b2', b3', b4', b5'⟩ | ⟨m', a', a2', a3', b1', b2', b3', b4', b5'⟩
  · exact ⟨by rw [b1, b1'], by rw [b2, b2'], by rw [b3, b3'], by rw [b4, b4'], by rw [b5, b5']⟩
  · rw [a] at a'; cases a'
  · rw [a', Si.valid_iff.2 a2'] at a; cases a
  · rw [a] at a'; cases a'
  · exact ⟨by rw [b1, b1'], by rw [b2, b2'], by rw [b3, b3'], by rw [b4, b4'], by rw [b5, b5']⟩
  · exact absurd ⟨m', a', a2', a3'⟩ a2
  · rw [a, Si.valid_iff.2 a2] at a'; cases a'
  · exact absurd ⟨m, a, a2, a3⟩ a2'
  · obtain rfl : m = m' := by omega
    exact ⟨by rw [b1, b1'], by rw [b2, b2'], by rw [b3, b3'], by rw [b4, b4'], by rw [b5, b5']⟩

end Go.Proofs.Ytmgoahbloppdmaa

/-
  The document's first example of layer 8, pure: a cycle of four vertices.
-/
namespace Go.Proofs.Ytmgoahbloppdmaa
namespace Lo
open Df

def es4 : List (Int × Int) := [(0, 1), (0, 3), (1, 2), (2, 3)]
def s4 : St := ⟨[-1, 0, 4, 6], [0, 1, 2, 3], [0, 1, 2, 3], [0, 3, 4, 6]⟩

theorem val4 : Si.Val (4 : Nat) es4 := by
  refine ⟨by decide, by decide, by decide, fun j p hj => ?_, fun j p q hp hq => ?_⟩
  · match j, hj with
    | 0, hj => cases hj; unfold Si.ok; decide
    | 1, hj => cases hj; unfold Si.ok; decide
    | 2, hj => cases hj; unfold Si.ok; decide
    | 3, hj => cases hj; unfold Si.ok; decide
  · match j, hp, hq with
    | 0, hp, hq => cases hp; cases hq; unfold Si.lt; decide
    | 1, hp, hq => cases hp; cases hq; unfold Si.lt; decide
    | 2, hp, hq => cases hp; cases hq; unfold Si.lt; decide

theorem way4 : IsWay es4 s4 [3, 2, 1, 0] := ⟨by decide, by decide, by decide, by decide, by decide, by decide, by decide, by decide, trivial⟩

theorem vf4 : VF 4 es4 s4 := by
  refine ⟨by unfold Lens; decide, by unfold Once; decide, fun v hv => ?_, ⟨_, rfl⟩, fun e he => ?_⟩
  · match v, hv with
    | 0, _ => exact .inl (by decide)
    | 1, _ => exact .inr ⟨0, by decide, by decide, by decide, by decide, by decide⟩
    | 2, _ => exact .inr ⟨4, by decide, by decide, by decide, by decide, by decide⟩
    | 3, _ => exact .inr ⟨6, by decide, by decide, by decide, by decide, by decide⟩
  · match e, he with
    | 0, _ => exact ⟨0, .inl rfl, by decide, .inl (by decide)⟩
    | 1, _ => exact ⟨3, .inr rfl, by decide, .inr ⟨_, way4, by decide⟩⟩
    | 2, _ => exact ⟨4, .inl rfl, by decide, .inl (by decide)⟩
    | 3, _ => exact ⟨6, .inl rfl, by decide, .inl (by decide)⟩

theorem isvf4 : IsVF 4 es4 s4 := ⟨4, rfl, val4, vf4⟩

theorem isRet_tree {e b : Nat} (h : tree es4 s4 b = true) : isRet es4 s4 e b = false := by simp [isRet, h]
theorem isRet_one (e : Nat) : isRet es4 s4 e 1 = true ↔ ht es4 s4 1 < hf es4 s4 e ∧ ((go_ es4 s4 e : Nat) : Int) ∈ [(3 : Int), 2, 1, 0] := by
  have h1 : tree es4 s4 1 = false := by decide
  have h3 : ((fr es4 s4 1 : Nat) : Int) = 3 := by decide
  simp only [isRet, h1, h3, Bool.not_false, Bool.true_and, Bool.and_eq_true, decide_eq_true_iff]
  rw [Anc.iff way4]

theorem rets_of {e : Nat} (ht' : tree es4 s4 e = true) : rets es4 s4 e = if isRet es4 s4 e 1 = true then [1] else [] := by
  have h0 : isRet es4 s4 e 0 = false := isRet_tree (by decide)
  have h2 : isRet es4 s4 e 2 = false := isRet_tree (by decide)
  have h3 : isRet es4 s4 e 3 = false := isRet_tree (by decide)
  unfold rets
  rw [if_pos ht']
  show (List.range 4).filter _ = _
  rw [show List.range 4 = [0, 1, 2, 3] from rfl]
  cases h1 : isRet es4 s4 e 1 <;> simp [h0, h1, h2, h3]

theorem rets0 : rets es4 s4 0 = [] := by
  rw [rets_of (by decide), if_neg (by rw [isRet_one]; decide)]
theorem rets1 : rets es4 s4 1 = [1] := rets_back (by decide)
theorem rets2 : rets es4 s4 2 = [1] := by
  rw [rets_of (by decide), if_pos (by rw [isRet_one]; decide)]
theorem rets3 : rets es4 s4 3 = [1] := by
  rw [rets_of (by decide), if_pos (by rw [isRet_one]; decide)]

theorem low4 : upTo (low es4 s4) 4 = [0, 0, 0, 0] := by
  show [low es4 s4 0, low es4 s4 1, low es4 s4 2, low es4 s4 3] = _
  unfold low hs
  rw [rets0, rets1, rets2, rets3]
  decide
theorem low24 : upTo (low2 es4 s4) 4 = [0, 3, 1, 2] := by
  show [low2 es4 s4 0, low2 es4 s4 1, low2 es4 s4 2, low2 es4 s4 3] = _
  unfold low2 low hs
  rw [rets0, rets1, rets2, rets3]
  decide
theorem nest4 : nest es4 s4 0 = 0 ∧ nest es4 s4 1 = 0 ∧ nest es4 s4 2 = 0 ∧ nest es4 s4 3 = 0 := by
  unfold nest low2 low hs
  rw [rets0, rets1, rets2, rets3]
  decide
theorem out4 : outTo 4 es4 s4 4 = [[0], [4], [6], [3]] := by
  have e0 : fr es4 s4 0 = 0 := by decide
  have e1 : fr es4 s4 1 = 3 := by decide
  have e2 : fr es4 s4 2 = 1 := by decide
  have e3 : fr es4 s4 3 = 2 := by decide
  simp only [outTo, e0, e1, e2, e3]
  simp [put, fst, snd, s4, List.replicate, at_]

/-- What Of answers of it, and Returns of edge 2. -/
theorem lowIs4 {A1 A2 A3 : List Int} {ls : List (List Int)} {z : Int} (h : LowIs 4 es4 s4 A1 A2 A3 ls z) : A1 = [0, 0, 0, 0] ∧ A2 = [0, 3, 1, 2] ∧ ls = [[0], [4], [6], [3]] ∧ z = 0 ∧ A3 = upTo (nest es4 s4) 4 := by
  obtain ⟨h1, h2, h3, h4, h5⟩ := h.unique (.inr (.inr ⟨4, rfl, val4, vf4, rfl, rfl, rfl, rfl, rfl⟩))
  exact ⟨h1.trans low4, h2.trans low24, h4.trans out4, h5, h3⟩
theorem retIs4 {l : List Nat} {z : Int} (h : RetIs 4 es4 s4 2 l z) : l = [1] ∧ z = 0 := by
  obtain ⟨h1, h2⟩ := h.unique (.inr (.inr (.inr ⟨2, isvf4, rfl, by decide, rfl, rfl⟩)))
  exact ⟨h1.trans rets2, h2⟩

end Lo
end Go.Proofs.Ytmgoahbloppdmaa

/-
  A region that draws its order and whose operations only read, calls among them that only make memory: one walk serves every order.
-/
namespace Go.Proofs.Ytmgoahbloppdmaa
open Go.RowKit

/-- A world in which there is w, and more. -/
structure LW (w : World) where
  val : World
  h : Below w.heap.size w val

theorem LW.any (w : World) : Nonempty (LW w) := ⟨⟨w, Below.refl _ _⟩⟩

theorem wp_region_lw {P : Program} {id : Nat} {Q : Exit → Act → World → Prop} {a : Act} {w : World} {l : List Oper} (hm : P.follows .mixedOrders = true) (hB : Region.lexB .any l.toArray = true)
    (h : wpQuiet P l.toArray (fun w' => ∃ D : LW w, w' = D.val) (fun a' => ∀ w', (∃ D : LW w, w' = D.val) → Q .normal a' w') l a) : (Code.region id l.toArray true).wp P Q a w :=
  wp_region_quiet (C := fun w' => ∃ D : LW w, w' = D.val) hm hB ⟨⟨w.drew, (Below.refl _ _).drew⟩, rfl⟩ (by simpa using h)

theorem Calls.lw {P : Program} {f : FuncId} {args : Array Value} {w : World} {D : LW w} {v : Value}
    (h : Calls P f args D.val fun e w' => e = .returned v ∧ Below D.val.heap.size D.val w') : Calls P f args D.val fun e w'' => e = .returned v ∧ ∃ D' : LW w, w'' = D'.val :=
  h.mono fun _ w' ⟨he, hb⟩ => ⟨he, ⟨w', D.h.trans (hb.mono D.h.size)⟩, rfl⟩

end Go.Proofs.Ytmgoahbloppdmaa
