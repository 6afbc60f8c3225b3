/-
  Lists of pairs, each in memory of its own, and what leaves them as they are.
-/
import Derived.Test.YtmcbinooihkjhaaPaEq
import Derived.Test.YtmcbinooihkjhaaPaFixed
import Derived.Test.YtmcbinooihkjhaaKin
import Derived.Maps.AppendAt
import Derived.Lib.AppendStr
namespace Go.Proofs.Ytmcbinooihkjhaa
open Go.RowKit

theorem types_apart {w : World} {B B' n n' s s' : Nat} {e e' : TypeId} {vo va : Value} {xs ys : List Value} (h : w.ownsRow B e s vo n xs) (h' : w.ownsRow B' e' s' va n' ys) (he : e ≠ e') : vo.ownBlock = none ∨ vo.ownBlock ≠ va.ownBlock := by
  rcases h.2 with ⟨rfl, _⟩ | ⟨g, cap, cur, rfl, _, hh, _⟩
  · exact .inl rfl
  · right
    rcases h'.2 with ⟨rfl, _⟩ | ⟨g', cap', cur', rfl, _, hh', _⟩
    · simp [Value.ownBlock]
    · intro e
      simp [Value.ownBlock] at e
      subst e
      rw [hh] at hh'
      cases hh'
      exact he rfl

theorem row_below {w w' : World} {B : Nat} {e : TypeId} {size n : Nat} {v : Value} {xs : List Value} (h : w.ownsRow B e size v n xs) (hb : Below w.heap.size w w') : w'.ownsRow B e size v n xs := by
  refine ⟨h.1, ?_⟩
  rcases h.2 with h | ⟨g, cap, cur, rfl, hgB, hh, hrr⟩
  · exact .inl h
  · exact .inr ⟨g, cap, cur, rfl, hgB, (hb.block g (lt_of_block hh)).trans hh, hrr⟩

theorem row_set {w : World} {B : Nat} {e : TypeId} {size n : Nat} {v : Value} {xs : List Value} (h : w.ownsRow B e size v n xs) (a : Addr) (u : Value) (hne : v.ownBlock ≠ some a.block) : (w.setCell a u).ownsRow B e size v n xs := by
  refine ⟨h.1, ?_⟩
  rcases h.2 with h | ⟨g, cap, cur, rfl, hgB, hh, hrr⟩
  · exact .inl h
  · exact .inr ⟨g, cap, cur, rfl, hgB, (heap_setCell_other w a g _ (fun e => hne (by simp [Value.ownBlock, e]))).trans hh, hrr⟩

/-- The lists ls hold the pairs P 0, P 1, .., each in a block of its own, none below B. -/
structure Nine (B : Nat) (w : World) (ls : List Value) (P : Nat → List (Int × Int)) : Prop where
  own : ∀ (k : Nat) (v : Value), ls[k]? = some v → OwnPairs w B v (P k)
  apart : ∀ (i j : Nat) (u v : Value), ls[i]? = some u → ls[j]? = some v → i ≠ j → u.ownBlock = none ∨ u.ownBlock ≠ v.ownBlock

theorem Nine.nil (B : Nat) (w : World) (P : Nat → List (Int × Int)) : Nine B w [] P := ⟨fun k v h => by simp at h, fun i j u v h => by simp at h⟩

theorem Nine.drewN {B : Nat} {w : World} {ls : List Value} {P : Nat → List (Int × Int)} (h : Nine B w ls P) (k : Nat) : Nine B (w.drewN k) ls P := ⟨h.own, h.apart⟩

theorem Nine.below {B : Nat} {w w' : World} {ls : List Value} {P : Nat → List (Int × Int)} (h : Nine B w ls P) (hb : Below w.heap.size w w') : Nine B w' ls P := ⟨fun k v hk => row_below (h.own k v hk) hb, h.apart⟩

theorem Nine.alloc {B : Nat} {w : World} {ls : List Value} {P : Nat → List (Int × Int)} (h : Nine B w ls P) (x : Obj) : Nine B (w.alloc x) ls P := ⟨fun k v hk => (h.own k v hk).alloc x, h.apart⟩

/-- Something else has grown. -/
theorem Nine.kept {B : Nat} {w w' : World} {ls : List Value} {P : Nat → List (Int × Int)} {r : Option Nat} (h : Nine B w ls P) (hg : w.grownBy w' r) (hne : ∀ (k : Nat) (v : Value), ls[k]? = some v → v.ownBlock = none ∨ v.ownBlock ≠ r) : Nine B w' ls P := ⟨fun k v hk => (h.own k v hk).kept hg (hne k v hk), h.apart⟩

/-- Something else has been written. -/
theorem Nine.set {B : Nat} {w : World} {ls : List Value} {P : Nat → List (Int × Int)} (h : Nine B w ls P) (a : Addr) (u : Value) (hne : ∀ (k : Nat) (v : Value), ls[k]? = some v → v.ownBlock ≠ some a.block) : Nine B (w.setCell a u) ls P := ⟨fun k v hk => row_set (h.own k v hk) a u (hne k v hk), h.apart⟩

/-- A row of another type lies apart from every list. -/
theorem Nine.other {B B' : Nat} {w : World} {ls : List Value} {P : Nat → List (Int × Int)} {e : TypeId} {s n : Nat} {v : Value} {xs : List Value} (h : Nine B w ls P) (hr : w.ownsRow B' e s v n xs) (he : 38 ≠ e) : ∀ (k : Nat) (u : Value), ls[k]? = some u → u.ownBlock = none ∨ u.ownBlock ≠ v.ownBlock := fun k u hk => types_apart (h.own k u hk) hr he

/-- One list more, in memory that is new. -/
theorem Nine.snoc {B : Nat} {w w' : World} {ls : List Value} {ps : List (Int × Int)} {v : Value} (h : Nine B w ls fun _ => ps) (hb : Below w.heap.size w w') (hv : OwnPairs w' w.heap.size v ps) (hB : B ≤ w.heap.size) : Nine B w' (ls ++ [v]) fun _ => ps := by
  have hn := h.below hb
  have far : ∀ (k : Nat) (u : Value), ls[k]? = some u → u.ownBlock = none ∨ u.ownBlock ≠ v.ownBlock := by
    intro k u hk
    cases hu : u.ownBlock with
    | none => exact .inl rfl
    | some g =>
      refine .inr fun e => ?_
      have h1 := ((h.own k u hk).lt g hu).2
      have h2 := (hv.lt g e.symm).1
      omega
  refine ⟨fun k u hk => ?_, fun i j u u' hi hj hij => ?_⟩
  · rcases Nat.lt_or_ge k ls.length with hl | hl
    · rw [List.getElem?_append_left hl] at hk
      exact hn.own k u hk
    · rw [List.getElem?_append_right hl] at hk
      have h0 : k - ls.length = 0 := by
        rcases Nat.eq_zero_or_pos (k - ls.length) with e | e
        · exact e
        · rw [List.getElem?_eq_none (by simp; omega)] at hk
          cases hk
      rw [h0] at hk
      cases hk
      exact ⟨hv.1, hv.2.imp id fun ⟨g, cap, cur, a, b, c⟩ => ⟨g, cap, cur, a, Nat.le_trans hB b, c⟩⟩
  · have one : ∀ (k : Nat) (x : Value), (ls ++ [v])[k]? = some x → ls[k]? = some x ∨ (k = ls.length ∧ x = v) := by
      intro k x hk
      rcases Nat.lt_or_ge k ls.length with hl | hl
      · rw [List.getElem?_append_left hl] at hk
        exact .inl hk
      · rw [List.getElem?_append_right hl] at hk
        rcases Nat.eq_zero_or_pos (k - ls.length) with e | e
        · rw [e] at hk
          cases hk
          exact .inr ⟨by omega, rfl⟩
        · rw [List.getElem?_eq_none (by simp; omega)] at hk
          cases hk
    rcases one i u hi with a | ⟨a, rfl⟩ <;> rcases one j u' hj with b | ⟨b, rfl⟩
    · exact h.apart i j u u' a b hij
    · exact far i u a
    · rcases far j u' b with e | e
      · cases hu : u.ownBlock with
        | none => exact .inl rfl
        | some g => exact .inr (by rw [e]; simp)
      · exact .inr e.symm
    · omega

theorem flatP_set : ∀ (ps : List (Int × Int)) (i : Nat) (q : Int × Int), ((flatP ps).set (i * 2) (.int .i64 q.1)).set (i * 2 + 1) (.int .i64 q.2) = flatP (ps.set i q)
  | [], i, q => by simp [flatP]
  | p :: ps, 0, q => by simp [flatP]
  | p :: ps, i + 1, q => by
    have e := flatP_set ps i q
    have h0 : (i + 1) * 2 = i * 2 + 2 := by omega
    have h1 : (i + 1) * 2 + 1 = i * 2 + 1 + 2 := by omega
    rw [h1, h0]
    simp only [flatP, List.flatMap_cons, List.set_cons_succ, List.cons_append, List.nil_append] at e ⊢
    rw [e]

/-- A pair is written into one of the lists. -/
theorem Nine.store {B : Nat} {w : World} {ls : List Value} {P : Nat → List (Int × Int)} (h : Nine B w ls P) {k g n cap : Nat} (hk : ls[k]? = some (.slice (some ⟨g, 0, none⟩) n cap)) (i : Nat) (q : Int × Int) :
    Nine B ((w.setCell ⟨g, i * 2, none⟩ (.int .i64 q.1)).setCell ⟨g, i * 2 + 1, none⟩ (.int .i64 q.2)) ls (fun j => if j = k then (P k).set i q else P j) := by
  refine ⟨fun j v hj => ?_, h.apart⟩
  by_cases hjk : j = k
  · subst hjk
    obtain rfl : Value.slice (some ⟨g, 0, none⟩) n cap = v := Option.some.inj (hk.symm.trans hj)
    have ho := h.own j _ hj
    obtain rfl : n = (P j).length := by
      rcases ho.2 with ⟨e, _⟩ | ⟨_, _, _, e, _⟩
      · cases e
      · cases e; rfl
    rw [if_pos rfl]
    unfold OwnPairs
    rw [← flatP_set, List.length_set]
    exact (World.ownsRow.stored (World.ownsRow.stored ho (i * 2) _).1 (i * 2 + 1) _).1
  · rw [if_neg hjk]
    have hne : v.ownBlock ≠ some g := by
      rcases h.apart j k v _ hj hk hjk with e | e
      · rw [e]; simp
      · exact e
    exact row_set (row_set (h.own j v hj) _ _ hne) _ _ hne

end Go.Proofs.Ytmcbinooihkjhaa
