/-
  append onto a slice that the call owns: a shorter slice of the same block still holds what it held.
-/
import Derived.Test.YtmcbinooihkjhaaPaMem
namespace Go.Proofs.Ytmcbinooihkjhaa
open Go.RowKit

section
variable {P : Program} (w : World)

/-- A row that is a beginning of v's, or lies elsewhere, stands after the append as it stood. -/
theorem run_append_keep (base : Nat) (t ty e : TypeId) (i : TypeInfo) (z : Value) (size bytes : Nat) (ht : P.underlying t = some (.slice e)) (hi : P.info? e = some i) (hz : i.zero = some z)
    (hsize : i.size = size) (hby : i.bytes = bytes) (hzs : z.cells.size = size) (hsz : 0 < size)
    (v : Value) (n : Nat) (xs : List Value) (hown : w.ownsRow base e size v n xs)
    (a : Addr) (m c : Nat) (news : List Value) (hl : news.length = m * size) (hnews : ∀ j u, news[j]? = some u → w.cell? (a.add j) = some u) (h1 : ∀ u ∈ news, u.oneCell' = true)
    (h63 : n + m ≤ maxLen) (hbytes : (n + m) * bytes ≤ 140737488355328) (hbase : base ≤ w.heap.size) :
    ∃ v' w', (Builtin.append_ #[t, t] ty #[v, .slice (some a) m c]).run P w = .ok v' w' ∧ w'.ownsRow base e size v' (n + m) (xs ++ news) ∧ w.grownBy w' v.ownBlock ∧ (v'.ownBlock = v.ownBlock ∨ v'.ownBlock = some w.heap.size) ∧
      ∀ (b k : Nat) (u : Value) (ys : List Value), w.ownsRow b e size u k ys → (u.ownBlock = v.ownBlock → k ≤ n) → w'.ownsRow b e size u k ys := by
  obtain ⟨v', w', hr, h2, h3, h4, h5⟩ := run_append_own_at (P := P) w base t ty e i z size bytes ht hi hz hsize hby hzs hsz v n xs hown a m c news hl hnews h1 h63 hbytes hbase
  refine ⟨v', w', hr, h2, h3, h5, fun b k u ys hu hk => ?_⟩
  by_cases hub : u.ownBlock = none ∨ u.ownBlock ≠ v.ownBlock
  · exact hu.kept h3 hub
  · have hun : u.ownBlock ≠ none := fun e => hub (.inl e)
    have hue : u.ownBlock = v.ownBlock := Classical.byContradiction fun e => hub (.inr e)
    have hkn := hk hue
    subst hsize
    subst hby
    rcases hown.2 with ⟨rfl, rfl⟩ | ⟨g, cap, cur, rfl, hbg, hg, hnc, hcm, hcs, htake⟩
    · exact absurd hue hun
    · refine ⟨hu.1, ?_⟩
      rcases hu.2 with ⟨rfl, _⟩ | ⟨g', cap', cur', rfl, hbg', hg', hnc', hcm', hcs', htake'⟩
      · exact absurd rfl hun
      · simp [Value.ownBlock] at hue
        subst hue
        rw [hg] at hg'
        cases hg'
        by_cases hroom : n + m ≤ cap
        · have hfit : n * i.size + news.length ≤ cur.size := by rw [hl, hcs, ← Nat.add_mul]; exact Nat.mul_le_mul_right _ hroom
          have hr2 := run_append_room (P := P) w t ty e i ht hi g' n cap cur hg a m c news hl hnews h1 hroom hfit
          rw [hr] at hr2
          cases hr2
          have hks : k * i.size ≤ n * i.size := Nat.mul_le_mul_right _ hkn
          refine .inr ⟨g', cap', _, rfl, hbg', setRow_heap w g' cur _ e _ hg, hnc', hcm', ?_, ?_⟩
          · simp only [List.size_toArray, List.length_append, List.length_take, List.length_drop, Array.length_toList]
            omega
          · rw [← htake', List.append_assoc, List.take_append_of_le_length (by simp; omega), List.take_take, Nat.min_eq_left hks]
        · have holds : ∀ j u, xs[j]? = some u → w.cell? ((⟨g', 0, none⟩ : Addr).add j) = some u := hown.cells (g := g') rfl
          have hr2 := run_append_grow (P := P) w t ty e i z ht hi hz ⟨g', 0, none⟩ n cap xs hown.1 holds a m c news hl hnews (by omega) (by simp only [maxLen] at h63; omega) (growslice_fits (by omega) hbytes)
          rw [hr] at hr2
          cases hr2
          exact .inr ⟨g', cap', cur, rfl, hbg', (Below.heap_alloc w.drew _ g' (lt_of_block hg)).trans hg, hnc', hcm', hcs', htake'⟩

/-- At the operation, for the walk: as wpList_append_own_at, with one limb more: what still stands. -/
theorem wpList_append_keep {ops : Array Oper} {rest : List Oper} {o : Oper} {a : Act} {Q : Exit → Act → World → Prop} (hgd : o.guard = none) (s x : Operand) (t : TypeId)
    (ho : o.op = .call { callee := .builtin .append, args := #[s, x], argTypes := #[t, t] })
    (base : Nat) (e : TypeId) (i : TypeInfo) (z : Value) (size bytes : Nat) (ht : P.underlying t = some (.slice e)) (hi : P.info? e = some i) (hz : i.zero = some z)
    (hsize : i.size = size) (hby : i.bytes = bytes) (hzs : z.cells.size = size) (hsz : 0 < size)
    (v : Value) (n : Nat) (xs : List Value) (hs : a.eval s = v) (hown : w.ownsRow base e size v n xs)
    (ad : Addr) (m c : Nat) (news : List Value) (hx : a.eval x = .slice (some ad) m c) (hl : news.length = m * size) (hnews : ∀ j u, news[j]? = some u → w.cell? (ad.add j) = some u) (h1 : ∀ u ∈ news, u.oneCell' = true)
    (h63 : n + m ≤ maxLen) (hbytes : (n + m) * bytes ≤ 140737488355328) (hbase : base ≤ w.heap.size)
    (h : ∀ v' w', w'.ownsRow base e size v' (n + m) (xs ++ news) → w.grownBy w' v.ownBlock → (v'.ownBlock = v.ownBlock ∨ v'.ownBlock = some w.heap.size) →
      (∀ (b k : Nat) (u : Value) (ys : List Value), w.ownsRow b e size u k ys → (u.ownBlock = v.ownBlock → k ≤ n) → w'.ownsRow b e size u k ys) → wpList P ops Q rest (a.put o.dst v') w') :
    wpList P ops Q (o :: rest) a w := by
  refine wpList_plain hgd fun K hK => ?_
  obtain ⟨v', w', hr, h2, h3, h4, h5⟩ := run_append_keep (P := P) w base t o.type e i z size bytes ht hi hz hsize hby hzs hsz v n xs hown ad m c news hl hnews h1 h63 hbytes hbase
  unfold Oper.wp execOp
  simp only [ho, resolve, invoke, builtin, Sem.run_bind, Sem.run_pure, Result.andThen_ok, List.map_toArray, List.map_cons, List.map_nil, hs, hx, hr]
  exact hK _ _ (h v' w' h2 h3 h4 h5)

end

/-- What wpList_append_keep's last limb says of the lists. -/
theorem Nine.through {B n : Nat} {w w' : World} {ls : List Value} {P : Nat → List (Int × Int)} {v : Value} (h : Nine B w ls P)
    (hkeep : ∀ (b k : Nat) (u : Value) (ys : List Value), w.ownsRow b 38 2 u k ys → (u.ownBlock = v.ownBlock → k ≤ n) → w'.ownsRow b 38 2 u k ys)
    (hlen : ∀ (j : Nat) (u : Value), ls[j]? = some u → u.ownBlock = v.ownBlock → (P j).length ≤ n) : Nine B w' ls P :=
  ⟨fun j u hj => hkeep _ _ _ _ (h.own j u hj) (hlen j u hj), h.apart⟩

/-- The lists gs: those of ls with one pair more, in the same block or in one that is none of theirs. -/
structure Grown (B : Nat) (w : World) (ls gs : List Value) (P : Nat → List (Int × Int)) : Prop where
  own : ∀ (k : Nat) (v : Value), gs[k]? = some v → OwnPairs w B v (P k ++ [((k : Int), -9)])
  apart : ∀ (k j : Nat) (v u : Value), gs[k]? = some v → ls[j]? = some u → k ≠ j → v.ownBlock ≠ u.ownBlock

theorem Grown.nil (B : Nat) (w : World) (ls : List Value) (P : Nat → List (Int × Int)) : Grown B w ls [] P := ⟨fun k v h => by simp at h, fun k j v u h => by simp at h⟩

theorem Grown.drewN {B : Nat} {w : World} {ls gs : List Value} {P : Nat → List (Int × Int)} (h : Grown B w ls gs P) (k : Nat) : Grown B (w.drewN k) ls gs P := ⟨h.own, h.apart⟩

theorem Grown.alloc {B : Nat} {w : World} {ls gs : List Value} {P : Nat → List (Int × Int)} (h : Grown B w ls gs P) (x : Obj) : Grown B (w.alloc x) ls gs P := ⟨fun k v hk => (h.own k v hk).alloc x, h.apart⟩

theorem Grown.below {B : Nat} {w w' : World} {ls gs : List Value} {P : Nat → List (Int × Int)} (h : Grown B w ls gs P) (hb : Below w.heap.size w w') : Grown B w' ls gs P := ⟨fun k v hk => row_below (h.own k v hk) hb, h.apart⟩

theorem Grown.kept {B : Nat} {w w' : World} {ls gs : List Value} {P : Nat → List (Int × Int)} {r : Option Nat} (h : Grown B w ls gs P) (hg : w.grownBy w' r) (hne : ∀ (k : Nat) (v : Value), gs[k]? = some v → v.ownBlock = none ∨ v.ownBlock ≠ r) : Grown B w' ls gs P := ⟨fun k v hk => (h.own k v hk).kept hg (hne k v hk), h.apart⟩

/-- A list that has a pair has a block. -/
theorem own_some {B : Nat} {w : World} {v : Value} {ps : List (Int × Int)} (h : OwnPairs w B v ps) (hp : ps ≠ []) : v.ownBlock ≠ none := by
  rcases h.2 with ⟨_, h0⟩ | ⟨g, cap, cur, rfl, _⟩
  · exact absurd (List.eq_nil_of_length_eq_zero h0) hp
  · simp [Value.ownBlock]

/-- One more. -/
theorem Grown.snoc {B : Nat} {w : World} {ls gs : List Value} {P : Nat → List (Int × Int)} {v : Value} (h : Grown B w ls gs P) (hv : OwnPairs w B v (P gs.length ++ [((gs.length : Int), -9)])) (hne : ∀ (j : Nat) (u : Value), ls[j]? = some u → gs.length ≠ j → v.ownBlock ≠ u.ownBlock) : Grown B w ls (gs ++ [v]) P := by
  have one : ∀ (k : Nat) (x : Value), (gs ++ [v])[k]? = some x → gs[k]? = some x ∨ (k = gs.length ∧ x = v) := by
    intro k x hk
    rcases Nat.lt_or_ge k gs.length with hl | hl
    · rw [List.getElem?_append_left hl] at hk
      exact .inl hk
    · rw [List.getElem?_append_right hl] at hk
      rcases Nat.eq_zero_or_pos (k - gs.length) with e | e
      · rw [e] at hk
        cases hk
        exact .inr ⟨by omega, rfl⟩
      · rw [List.getElem?_eq_none (by simp; omega)] at hk
        cases hk
  refine ⟨fun k x hk => ?_, fun k j x u hk hj hkj => ?_⟩
  · rcases one k x hk with a | ⟨rfl, rfl⟩
    · exact h.own k x a
    · exact hv
  · rcases one k x hk with a | ⟨rfl, rfl⟩
    · exact h.apart k j x u a hj hkj
    · exact hne j u hj hkj

end Go.Proofs.Ytmcbinooihkjhaa
