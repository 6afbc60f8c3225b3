import Derived.Test.YtfkmldopfhdbkaaMg07
import Derived.Maps.AppendAt
import Derived.Sort.Grow
/-
  Faces, pure: the lists.
-/
namespace Go.Proofs.Ytfkmldopfhdbkaa
namespace Fa
open Pl Co

/-- On from c, till h comes. -/
def orbL (f : Nat → Nat) (h : Nat) : Nat → Nat → List Nat
  | 0, _ => []
  | k + 1, c => if c = h then [] else c :: orbL f h k (f c)
/-- The face of h, from h on. -/
def face (f : Nat → Nat) (n h : Nat) : List Nat := h :: orbL f h n (f h)
/-- The faces whose least is below k. -/
def facesTo (f : Nat → Nat) (n : Nat) : Nat → List (List Nat)
  | 0 => []
  | k + 1 => if (facesTo f n k).flatten.contains k then facesTo f n k else facesTo f n k ++ [face f n k]
/-- As ints. -/
def zl (l : List Nat) : List Int := l.map fun x : Nat => (x : Int)
def facesZ (f : Nat → Nat) (n : Nat) : List (List Int) := (facesTo f n n).map zl

theorem zl_len (l : List Nat) : (zl l).length = l.length := by simp [zl]
theorem zl_at {l : List Nat} {i x : Nat} (h : l[i]? = some x) : (zl l)[i]? = some (x : Int) := by unfold zl; rw [List.getElem?_map, h]; rfl

/-- The way round, p steps. -/
def way (f : Nat → Nat) (h p : Nat) : List Nat := (List.range p).map fun i => it f i h
theorem way_len (f : Nat → Nat) (h p : Nat) : (way f h p).length = p := by simp [way]
theorem way_at {f : Nat → Nat} {h p i : Nat} (hi : i < p) : (way f h p)[i]? = some (it f i h) := by
  unfold way
  rw [List.getElem?_map, List.getElem?_range hi]
  rfl
theorem way_succ (f : Nat → Nat) (h p : Nat) : way f h (p + 1) = way f h p ++ [it f p h] := by
  unfold way
  rw [List.range_succ, List.map_append]
  rfl

/-- p: how long the face of h is. -/
structure IsLen (f : Nat → Nat) (n h p : Nat) : Prop where
  pos : 0 < p
  le : p ≤ n
  back : it f p h = h
  first : ∀ i, 0 < i → i < p → it f i h ≠ h

section
variable {n : Nat} {f m : Nat → Nat}

theorem len_ex (hp : Per n f) {h : Nat} (hh : h < n) : ∃ p, IsLen f n h p := by
  obtain ⟨k, hk, e⟩ := it_back hp.lt hp.inj hh
  obtain ⟨p, ⟨h1, h2⟩, -, hmin⟩ := least_of (P := fun k => 0 < k ∧ it f k h = h) ⟨hk, e⟩
  refine ⟨p, h1, ?_, h2, fun i h3 h4 h5 => hmin i h4 ⟨h3, h5⟩⟩
  have hn : (way f h p).Nodup := by
    unfold List.Nodup way
    rw [List.pairwise_map]
    refine List.Pairwise.imp_of_mem ?_ List.pairwise_lt_range
    intro i j hi hj hij e
    rw [List.mem_range] at hi hj
    refine hmin (j - i) (by omega) ⟨by omega, ?_⟩
    have e2 : it f j h = it f i (it f (j - i) h) := by rw [← it_add]; congr 1; omega
    rw [e2] at e
    exact (it_inj hp.lt hp.inj i hh (it_lt hp.lt _ hh) e).symm
  have := nodup_le hn (n := n) (fun y hy => by
    unfold way at hy
    obtain ⟨i, _, rfl⟩ := List.mem_map.1 hy
    exact it_lt hp.lt i hh)
  rwa [way_len] at this
theorem IsLen.unique {h p q : Nat} (a : IsLen f n h p) (b : IsLen f n h q) : p = q := by
  rcases Nat.lt_trichotomy p q with c | c | c
  · exact absurd a.back (b.first p a.pos c)
  · exact c
  · exact absurd b.back (a.first q b.pos c)

theorem orbL_eq {h p : Nat} (hl : IsLen f n h p) : ∀ (fu k : Nat), 0 < k → k ≤ p → p - k ≤ fu → orbL f h fu (it f k h) = ((List.range (p - k)).map fun i => it f (k + i) h)
  | 0, k, _, h2, h3 => by
    have : p - k = 0 := by omega
    rw [this]
    rfl
  | fu + 1, k, h1, h2, h3 => by
    unfold orbL
    by_cases e : k = p
    · subst e
      rw [if_pos hl.back]
      simp
    · rw [if_neg (hl.first k h1 (by omega)), ← it_succ f k h, orbL_eq hl fu (k + 1) (by omega) (by omega) (by omega)]
      have e2 : p - k = (p - (k + 1)) + 1 := by omega
      rw [e2, List.range_succ_eq_map, List.map_cons, List.map_map]
      congr 1
      refine List.map_congr_left fun i _ => ?_
      show it f (k + 1 + i) h = it f (k + (i + 1)) h
      congr 1
      omega
theorem face_way {h p : Nat} (hl : IsLen f n h p) : face f n h = way f h p := by
  unfold face way
  have := orbL_eq hl n 1 (by omega) hl.pos (by have := hl.le; omega)
  have e1 : it f 1 h = f h := rfl
  rw [e1] at this
  rw [this]
  have e2 : p = (p - 1) + 1 := by have := hl.pos; omega
  conv => rhs; rw [e2, List.range_succ_eq_map, List.map_cons, List.map_map]
  congr 1
  refine List.map_congr_left fun i _ => ?_
  show it f (1 + i) h = it f (i + 1) h
  congr 1
  omega
theorem IsLen.mod {h p : Nat} (hl : IsLen f n h p) (k : Nat) : it f k h = it f (k % p) h := by
  have rep : ∀ t, it f (t * p) h = h := fun t => by
    induction t with
    | zero => rw [Nat.zero_mul]; rfl
    | succ t ih => rw [Nat.succ_mul, it_add, hl.back, ih]
  have := Nat.mod_add_div k p
  conv => lhs; rw [← this, it_add, Nat.mul_comm, rep]
theorem mem_way {h p x : Nat} (hl : IsLen f n h p) : x ∈ way f h p ↔ ∃ k, it f k h = x := by
  unfold way
  rw [List.mem_map]
  constructor
  · rintro ⟨i, _, e⟩
    exact ⟨i, e⟩
  · rintro ⟨k, e⟩
    refine ⟨k % p, List.mem_range.2 (Nat.mod_lt _ hl.pos), ?_⟩
    rw [← hl.mod k]
    exact e
theorem mem_face (hp : Per n f) (ho : Orb n f m) {h x : Nat} (hh : h < n) : x ∈ face f n h ↔ x < n ∧ m x = m h := by
  obtain ⟨p, hl⟩ := len_ex hp hh
  rw [face_way hl, mem_way hl]
  constructor
  · rintro ⟨k, rfl⟩
    have := it_lt hp.lt k hh
    exact ⟨this, ((ho.iff h _ hh this).2 ⟨k, rfl⟩).symm⟩
  · rintro ⟨h1, h2⟩
    exact (ho.iff h x hh h1).1 h2.symm

/-- Who is in the first faces. -/
theorem mem_facesTo (hp : Per n f) (ho : Orb n f m) {x : Nat} : ∀ k, k ≤ n → (x ∈ (facesTo f n k).flatten ↔ x < n ∧ m x < k)
  | 0, _ => by simp [facesTo]
  | k + 1, hk => by
    have ih := fun y => mem_facesTo hp ho (x := y) k (by omega)
    have hkn : k < n := by omega
    have hle := ho.norm.le k hkn
    unfold facesTo
    by_cases e : m k = k
    · rw [if_neg (by rw [List.contains_iff_mem, ih k]; omega), List.flatten_append, List.mem_append, ih x]
      simp only [List.flatten_cons, List.flatten_nil, List.append_nil]
      rw [mem_face hp ho hkn, e]
      omega
    · rw [if_pos (by rw [List.contains_iff_mem, ih k]; omega), ih x]
      constructor
      · rintro ⟨h1, h2⟩
        exact ⟨h1, by omega⟩
      · rintro ⟨h1, h2⟩
        refine ⟨h1, ?_⟩
        have : m x ≠ k := fun hc => by
          have := ho.norm.idem x h1
          rw [hc] at this
          exact e this
        omega
theorem facesTo_yes (hp : Per n f) (ho : Orb n f m) {k : Nat} (hk : k < n) (e : m k = k) : facesTo f n (k + 1) = facesTo f n k ++ [face f n k] := by
  conv => lhs; unfold facesTo
  rw [if_neg (by rw [List.contains_iff_mem, mem_facesTo hp ho k (by omega)]; omega)]
theorem facesTo_no (hp : Per n f) (ho : Orb n f m) {k : Nat} (hk : k < n) (e : m k ≠ k) : facesTo f n (k + 1) = facesTo f n k := by
  have := ho.norm.le k hk
  conv => lhs; unfold facesTo
  rw [if_pos (by rw [List.contains_iff_mem, mem_facesTo hp ho k (by omega)]; omega)]

/-- The faces are those of the least ones, rising. -/
theorem facesTo_eq (hp : Per n f) (ho : Orb n f m) : ∀ k, k ≤ n → facesTo f n k = ((List.range k).filter (fix m)).map (face f n)
  | 0, _ => rfl
  | k + 1, hk => by
    have ih := facesTo_eq hp ho k (by omega)
    rw [List.range_succ, List.filter_append, List.map_append, ← ih]
    by_cases e : m k = k
    · rw [facesTo_yes hp ho (by omega) e]
      have : fix m k = true := by unfold fix; simpa using e
      simp [this]
    · rw [facesTo_no hp ho (by omega) e]
      have : fix m k = false := by unfold fix; simpa using e
      simp [this]
theorem facesTo_len (hp : Per n f) (ho : Orb n f m) {k : Nat} (hk : k ≤ n) : (facesTo f n k).length = cntTo (fix m) k := by
  rw [facesTo_eq hp ho k hk, List.length_map, cntTo_filter]
theorem facesZ_len (hp : Per n f) (ho : Orb n f m) : (facesZ f n).length = cnt n m := by
  unfold facesZ
  rw [List.length_map, facesTo_len hp ho (Nat.le_refl _)]
  rfl

/-- The face of number num. -/
theorem filter_at (p : Nat → Bool) : ∀ {n x : Nat}, x < n → p x = true → ((List.range n).filter p)[cntTo p x]? = some x
  | 0, x, h, _ => by omega
  | n + 1, x, h, hx => by
    rw [List.range_succ, List.filter_append]
    by_cases e : x = n
    · subst e
      rw [List.getElem?_append_right (by rw [cntTo_filter]; exact Nat.le_refl _), cntTo_filter, Nat.sub_self]
      simp [hx]
    · have ih := filter_at p (n := n) (x := x) (by omega) hx
      rw [List.getElem?_append_left (List.getElem?_eq_some_iff.1 ih).1]
      exact ih
/-- A face, by its number: its least one, and that number. -/
theorem face_at (hp : Per n f) (ho : Orb n f m) {j : Nat} {l : List Nat} (h : (facesTo f n n)[j]? = some l) : ∃ r, r < n ∧ m r = r ∧ l = face f n r ∧ cntTo (fix m) r = j := by
  rw [facesTo_eq hp ho n (Nat.le_refl _), List.getElem?_map] at h
  obtain ⟨r, hr, rfl⟩ := Option.map_eq_some_iff.1 h
  obtain ⟨h1, h2⟩ := List.mem_filter.1 (List.mem_of_getElem? hr)
  rw [List.mem_range] at h1
  have h3 : m r = r := by unfold fix at h2; exact of_decide_eq_true h2
  refine ⟨r, h1, h3, rfl, ?_⟩
  have h4 := filter_at (fix m) h1 h2
  have hn : ((List.range n).filter (fix m)).Nodup := List.Pairwise.filter _ List.nodup_range
  obtain ⟨a1, a2⟩ := List.getElem?_eq_some_iff.1 hr
  obtain ⟨b1, b2⟩ := List.getElem?_eq_some_iff.1 h4
  rcases Nat.lt_trichotomy (cntTo (fix m) r) j with c | c | c
  · exact absurd (b2.trans a2.symm) (List.pairwise_iff_getElem.1 hn _ _ b1 a1 c)
  · exact c
  · exact absurd (a2.trans b2.symm) (List.pairwise_iff_getElem.1 hn _ _ a1 b1 c)
end
end Fa
end Go.Proofs.Ytfkmldopfhdbkaa

/-
  'append(v, z)' of a list of one's own.
-/
namespace Go.Proofs.Ytfkmldopfhdbkaa
open Go.RowKit Go.Sort

/-- 'append(v, z)', v a list of one's own. -/
theorem wpList_push {ops : Array Oper} {rest : List Oper} {o : Oper} {a : Act} {Q : Exit → Act → World → Prop} (hgd : o.guard = none) (s x : Operand)
    (ho : o.op = .call { callee := .builtin .append, args := #[s, x], argTypes := #[36, 36] }) (W : World) (B : Nat) (v : Value) (l : List Int) (z : Int) (hown : OwnZ W B v l)
    (hB : B ≤ W.heap.size) (hl : l.length ≤ 17592186044000) (hs : a.eval s = v) (hx : a.eval x = .slice (some ⟨W.heap.size, 0, none⟩) 1 1)
    (h : ∀ v' w', OwnZ w' B v' (l ++ [z]) → (W.alloc (.cells #[.int .i64 z] 3)).grownBy w' v.ownBlock → (v'.ownBlock = v.ownBlock ∨ v'.ownBlock = some (W.heap.size + 1)) → Below B W w' → wpList Try.prog ops Q rest (a.put o.dst v') w') :
    wpList Try.prog ops Q (o :: rest) a (W.alloc (.cells #[.int .i64 z] 3)) := by
  obtain ⟨i0, hi, hz0, hz1, hz2⟩ := info_parts Try.infoNum
  have hb0 : Below B W (W.alloc (.cells #[.int .i64 z] 3)) := (Below.refl _ _).alloc hB _
  refine wpList_append_own_at _ hgd s x 36 ho B 3 i0 (.int .i64 0) 1 8 Try.underlying36 hi hz0 hz1 hz2 rfl (by decide) _ _ _ hs (World.ownsRow.alloc hown _) ⟨W.heap.size, 0, none⟩ 1 1 [.int .i64 z] hx rfl (cell_one_new _ _ _) (by simp [Value.oneCell']) (by unfold maxLen; omega) (by omega) (by simp; omega) ?_
  intro v' w' hown' hg _ hat
  have ho' : OwnZ w' B v' (l ++ [z]) := by
    unfold OwnZ
    rw [List.length_append, List.map_append]
    exact hown'
  have hoB : ∀ b, v.ownBlock = some b → B ≤ b := fun b hb => (World.ownsRow.lt hown b hb).1
  refine h v' w' ho' hg (by simpa using hat) (hb0.grown hg (by simp; omega) hoB)

end Go.Proofs.Ytfkmldopfhdbkaa

/-
  A list of lists of ints, each in memory of its own.
-/
namespace Go.Proofs.Ytfkmldopfhdbkaa
open Go.RowKit

theorem Try.infoRow : (Try.prog.info? 36).map (fun i => (i.zero, i.size, i.bytes)) = some (some (.slice none 0 0), 1, 24) := by kernel_rfl

theorem own_succ {W : World} {base : Nat} {e : TypeId} {size : Nat} {v : Value} {k : Nat} {xs : List Value} (h : W.ownsRow base e size v (k + 1) xs) : ∃ g cap, v = .slice (some ⟨g, 0, none⟩) (k + 1) cap := by
  rcases h.2 with ⟨_, h0⟩ | ⟨g, cap, _, rfl, _⟩
  · omega
  · exact ⟨g, cap, rfl⟩

/-- v is a list of the slices vs, in memory of its own laid since block B; each of them a list of its own, ls. -/
structure RowsZ (w : World) (B : Nat) (v : Value) (vs : List Value) (ls : List (List Int)) : Prop where
  len : vs.length = ls.length
  outer : w.ownsRow B 36 1 v ls.length vs
  row : ∀ (u : Nat) (x : Value) (l : List Int), vs[u]? = some x → ls[u]? = some l → OwnZ w B x l
  apart : ∀ (u u' : Nat) (x x' : Value) (b : Nat), u ≠ u' → vs[u]? = some x → vs[u']? = some x' → x.ownBlock = some b → x'.ownBlock ≠ some b
  far : ∀ (u : Nat) (x : Value) (b : Nat), vs[u]? = some x → x.ownBlock = some b → v.ownBlock ≠ some b

section
variable {w w' : World} {B : Nat} {v : Value} {vs : List Value} {ls : List (List Int)}
theorem RowsZ.at (h : RowsZ w B v vs ls) {u : Nat} {x : Value} (hx : vs[u]? = some x) : ∃ l, ls[u]? = some l := ⟨_, List.getElem?_eq_getElem (by rw [← h.len]; exact (List.getElem?_eq_some_iff.1 hx).1)⟩
theorem RowsZ.at' (h : RowsZ w B v vs ls) {u : Nat} {l : List Int} (hl : ls[u]? = some l) : ∃ x, vs[u]? = some x := ⟨_, List.getElem?_eq_getElem (by rw [h.len]; exact (List.getElem?_eq_some_iff.1 hl).1)⟩
theorem row_same {e : TypeId} {s n : Nat} {xs : List Value} (h : w.ownsRow B e s v n xs) (hb : ∀ g, v.ownBlock = some g → B ≤ g → g < w.heap.size → w'.heap[g]? = w.heap[g]?) : w'.ownsRow B e s v n xs := by
  refine ⟨h.1, ?_⟩
  rcases h.2 with h | ⟨g, cap, cur, e1, hgB, hh, hr⟩
  · exact .inl h
  · exact .inr ⟨g, cap, cur, e1, hgB, (hb g (by rw [e1]; rfl) hgB (lt_of_block hh)).trans hh, hr⟩
theorem RowsZ.same (h : RowsZ w B v vs ls) (hb : ∀ g, B ≤ g → g < w.heap.size → w'.heap[g]? = w.heap[g]?) : RowsZ w' B v vs ls :=
  ⟨h.len, row_same h.outer fun g _ h1 h2 => hb g h1 h2, fun u x l hx hl => row_same (h.row u x l hx hl) fun g _ h1 h2 => hb g h1 h2, h.apart, h.far⟩
theorem RowsZ.later (h : RowsZ w B v vs ls) (hb : Below w.heap.size w w') : RowsZ w' B v vs ls := h.same fun g _ hg => hb.block g hg
theorem RowsZ.nil (w : World) (B : Nat) : RowsZ w B (.slice none 0 0) [] [] := ⟨rfl, World.ownsRow_nil _ _ _ _, fun u x l hx => by simp at hx, fun u u' x x' b _ hx => by simp at hx, fun u x b hx => by simp at hx⟩

/-- What lies in the blocks of the rows that a step leaves alone. -/
theorem RowsZ.lower {B' : Nat} (h : RowsZ w B v vs ls) (hB : B' ≤ B) : RowsZ w B' v vs ls := by
  refine ⟨h.len, ⟨h.outer.1, ?_⟩, fun u x l hx hl => (h.row u x l hx hl).lower hB, h.apart, h.far⟩
  rcases h.outer.2 with h | ⟨g, cap, cur, e1, hgB, hr⟩
  · exact .inl h
  · exact .inr ⟨g, cap, cur, e1, Nat.le_trans hB hgB, hr⟩

/-- One list more at the end: x, a list l of its own that is none of those that are there. W: the world in which the row is appended to (x has been put into a cell of its own there). -/
theorem RowsZ.grow {W w1 : World} {x v' : Value} {l : List Int} (h : RowsZ W B v vs ls) (hx : OwnZ W B x l) (hx1 : ∀ (u : Nat) (y : Value) (b : Nat), vs[u]? = some y → y.ownBlock = some b → x.ownBlock ≠ some b) (hx2 : ∀ b, v.ownBlock = some b → x.ownBlock ≠ some b)
    {tmp : Obj} (hown : w1.ownsRow B 36 1 v' (ls.length + 1) (vs ++ [x])) (hgrow : (W.alloc tmp).grownBy w1 v.ownBlock) (hat : v'.ownBlock = v.ownBlock ∨ v'.ownBlock = some (W.heap.size + 1)) :
    RowsZ w1 B v' (vs ++ [x]) (ls ++ [l]) := by
  have hsame : ∀ g, v.ownBlock ≠ some g → g < W.heap.size → w1.heap[g]? = W.heap[g]? := fun g hne hg => by
    rw [hgrow.block g (by rw [World.size_alloc]; omega) (fun e => hne e.symm)]
    exact Below.heap_alloc W tmp g hg
  have hold : ∀ u y k, vs[u]? = some y → ls[u]? = some k → OwnZ w1 B y k := fun u y k hy hk => (h.row u y k hy hk).same fun g hg hl => hsame g (h.far u y g hy hg) hl
  have hxx : OwnZ w1 B x l := hx.same fun g hg hl => hsame g (fun e => hx2 g e hg) hl
  have hlt : ∀ y k b, OwnZ W B y k → y.ownBlock = some b → b < W.heap.size := fun y k b ho hb => (World.ownsRow.lt ho b hb).2
  have hlast : ∀ u y, (vs ++ [x])[u]? = some y → (u < vs.length ∧ vs[u]? = some y) ∨ (u = vs.length ∧ y = x) := fun u y hy => by
    by_cases hu : u < vs.length
    · rw [List.getElem?_append_left hu] at hy
      exact .inl ⟨hu, hy⟩
    · rw [List.getElem?_append_right (by omega)] at hy
      have hl := (List.getElem?_eq_some_iff.1 hy).1
      have e : u - vs.length = 0 := by simp at hl; omega
      rw [e] at hy
      exact .inr ⟨by omega, (Option.some.inj hy).symm⟩
  refine ⟨by simp [h.len], by rw [List.length_append]; exact hown, fun u y k hy hk => ?_, fun u u' y y' b hne hy hy' hb => ?_, fun u y b hy hb => ?_⟩
  · rcases hlast u y hy with ⟨hu, h1⟩ | ⟨hu, rfl⟩
    · rw [List.getElem?_append_left (by rw [← h.len]; exact hu)] at hk
      exact hold u y k h1 hk
    · rw [hu, h.len, List.getElem?_append_right (Nat.le_refl _), Nat.sub_self] at hk
      obtain rfl := Option.some.inj hk
      exact hxx
  · rcases hlast u y hy with ⟨hu, h1⟩ | ⟨hu, rfl⟩ <;> rcases hlast u' y' hy' with ⟨hu', h2⟩ | ⟨hu', rfl⟩
    · exact h.apart u u' y y' b hne h1 h2 hb
    · exact hx1 u y b h1 hb
    · intro hc
      exact hx1 u' y' b h2 hc hb
    · omega
  · intro hc
    rcases hat with e | e
    · rw [e] at hc
      rcases hlast u y hy with ⟨hu, h1⟩ | ⟨hu, rfl⟩
      · exact h.far u y b h1 hb hc
      · exact hx2 b hc hb
    · rw [e] at hc
      have hbs := Option.some.inj hc
      rcases hlast u y hy with ⟨hu, h1⟩ | ⟨hu, rfl⟩
      · obtain ⟨k, hk⟩ := h.at h1
        have := hlt y k b (h.row u y k h1 hk) hb
        omega
      · have := hlt y l b hx hb
        omega

/-- List u is appended to. -/
theorem RowsZ.put {W w1 : World} {u g c : Nat} {x x' : Value} {l l' : List Int} (h : RowsZ W B (.slice (some ⟨g, 0, none⟩) ls.length c) vs ls) (hx : vs[u]? = some x) (hl : ls[u]? = some l)
    {tmp : Obj} (hown : OwnZ w1 B x' l') (hgrow : (W.alloc tmp).grownBy w1 x.ownBlock) (hat : x'.ownBlock = x.ownBlock ∨ x'.ownBlock = some (W.heap.size + 1)) :
    w1.cell? ⟨g, u, none⟩ = some x ∧ w1.frozen? ⟨g, u, none⟩ = false ∧ RowsZ (w1.setCell ⟨g, u, none⟩ x') B (.slice (some ⟨g, 0, none⟩) ls.length c) (vs.set u x') (ls.set u l') ∧ Below B W (w1.setCell ⟨g, u, none⟩ x') := by
  have hul := (List.getElem?_eq_some_iff.1 hx).1
  have hfx : x.ownBlock ≠ some g := fun e => h.far u x g hx e rfl
  obtain ⟨hgB, hgl⟩ := World.ownsRow.lt h.outer g rfl
  have hsz : W.heap.size ≤ w1.heap.size := by
    have := hgrow.size
    rw [World.size_alloc] at this
    omega
  have hsame : ∀ b, x.ownBlock ≠ some b → b < W.heap.size → w1.heap[b]? = W.heap[b]? := fun b hne hb => by
    rw [hgrow.block b (by rw [World.size_alloc]; omega) (fun e => hne e.symm)]
    exact Below.heap_alloc W tmp b hb
  have ho1 : w1.ownsRow B 36 1 (.slice (some ⟨g, 0, none⟩) ls.length c) ls.length vs := row_same h.outer fun b hb _ hl => by
    obtain rfl : g = b := by simpa [Value.ownBlock] using hb
    exact hsame g hfx hl
  have hst := ho1.stored u x'
  have hc := World.ownsRow.cells ho1 (g := g) rfl u x hx
  have ea : ((⟨g, 0, none⟩ : Addr).add u) = ⟨g, u, none⟩ := by
    by_cases h0 : u = 0 <;> simp [Addr.add, h0]
  rw [ea] at hc
  have hng : x'.ownBlock ≠ some g := by
    rcases hat with e | e
    · rw [e]; exact hfx
    · rw [e]
      intro e2
      have := Option.some.inj e2
      omega
  have hset : ∀ b, b ≠ g → (w1.setCell ⟨g, u, none⟩ x').heap[b]? = w1.heap[b]? := fun b hb => heap_setCell_other w1 ⟨g, u, none⟩ b x' hb
  have hxB : ∀ b, x.ownBlock = some b → B ≤ b := fun b hb => (World.ownsRow.lt (h.row u x l hx hl) b hb).1
  refine ⟨hc, ho1.frozenAt u, ⟨by simp [h.len], by rw [List.length_set]; exact hst.1, fun a y k ha hk => ?_, fun a a' y y' b hne ha ha' hb => ?_, fun a y b ha hb => ?_⟩, ?_⟩
  · rw [List.getElem?_set] at ha hk
    by_cases e : u = a
    · subst e
      rw [if_pos rfl, if_pos hul] at ha
      rw [if_pos rfl, if_pos (by rw [← h.len]; exact hul)] at hk
      cases ha
      cases hk
      exact hown.same fun b hb _ => hset b (fun e => hng (by rw [hb, e]))
    · rw [if_neg e] at ha hk
      refine (h.row a y k ha hk).same fun b hb hl => ?_
      rw [hset b (fun e => h.far a y b ha hb (by rw [e]; rfl)), hsame b (fun e2 => h.apart u a x y b e hx ha e2 hb) hl]
  · rw [List.getElem?_set] at ha ha'
    have hnew : ∀ (z : Nat) (q : Value) (b : Nat), u ≠ z → vs[z]? = some q → x'.ownBlock = some b → q.ownBlock ≠ some b := fun z q b hz hq hb => by
      rcases hat with e2 | e2
      · rw [e2] at hb
        exact h.apart u z x q b hz hx hq hb
      · rw [e2] at hb
        have hbs := Option.some.inj hb
        intro hc
        obtain ⟨k, hk⟩ := h.at hq
        have := (World.ownsRow.lt (h.row z q k hq hk) b hc).2
        omega
    by_cases e : u = a
    · subst e
      rw [if_pos rfl, if_pos hul] at ha
      cases ha
      rw [if_neg hne] at ha'
      exact hnew a' y' b hne ha' hb
    · rw [if_neg e] at ha
      by_cases e' : u = a'
      · subst e'
        rw [if_pos rfl, if_pos hul] at ha'
        cases ha'
        intro hc
        exact hnew a y b (Ne.symm hne) ha hc hb
      · rw [if_neg e'] at ha'
        exact h.apart a a' y y' b hne ha ha' hb
  · rw [List.getElem?_set] at ha
    by_cases e : u = a
    · subst e
      rw [if_pos rfl, if_pos hul] at ha
      cases ha
      intro hc
      obtain rfl : g = b := by simpa [Value.ownBlock] using hc
      exact hng hb
    · rw [if_neg e] at ha
      exact h.far a y b ha hb
  · refine ⟨hgrow.os, hgrow.tape, hgrow.output, by simpa using hsz, fun k hk => ?_⟩
    rw [hset k (by omega), hsame k (fun e => by have := hxB k e; omega) (by omega)]
end

end Go.Proofs.Ytfkmldopfhdbkaa

/-
  The shape of a list of lists.
-/
namespace Go.Proofs.Ytfkmldopfhdbkaa
open Go.RowKit

theorem row_form {w : World} {B : Nat} {v : Value} {vs : List Value} {ls : List (List Int)} (h : RowsZ w B v vs ls) (hn : 0 < ls.length) : ∃ g c, v = .slice (some ⟨g, 0, none⟩) ls.length c := by
  rcases h.outer.2 with ⟨rfl, h0⟩ | ⟨g, cap, cur, rfl, _⟩
  · omega
  · exact ⟨g, cap, rfl⟩
theorem row_shape {w : World} {B : Nat} {v : Value} {vs : List Value} {ls : List (List Int)} (h : RowsZ w B v vs ls) : ∃ ao c, v = .slice ao ls.length c := by
  rcases h.outer.2 with ⟨rfl, h0⟩ | ⟨g, cap, cur, rfl, _⟩
  · exact ⟨none, 0, by rw [h0]⟩
  · exact ⟨_, cap, rfl⟩

end Go.Proofs.Ytfkmldopfhdbkaa
