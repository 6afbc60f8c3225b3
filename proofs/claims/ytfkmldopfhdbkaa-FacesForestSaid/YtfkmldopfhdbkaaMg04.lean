import Derived.Test.YtfkmldopfhdbkaaMg03
import Derived.Test.YtfkmldopfhdbkaaMg02
import Derived.Sort.Grow
import Derived.Deep.RegionHeld3
import Derived.Laws.OwnMore
/-
  Pure: Next of a rotation, element by element: a permutation of the half-edges, round by round.
-/
namespace Go.Proofs.Ytfkmldopfhdbkaa
namespace Ro

theorem mem_out {es : List (Int × Int)} {v j k : Nat} : j ∈ Cs.out es v k ↔ j < k ∧ Cs.fr es j = v := by
  constructor
  · intro h
    obtain ⟨i, hi⟩ := List.mem_iff_getElem?.1 h
    have := Cs.out_of hi
    exact ⟨this.1, this.2.1⟩
  · rintro ⟨h, hv⟩
    exact List.mem_of_getElem? (Cs.out_at h hv)

section
variable {es : List (Int × Int)} {v : Nat} {l : List Int}

theorem IsRot.sub (h : IsRot es v l) : l ⊆ (Cs.out es v (2 * es.length)).map (fun j : Nat => (j : Int)) := by
  intro x hx
  obtain ⟨j, rfl, hj, hf⟩ := lv_nat (h.lv x hx)
  exact List.mem_map.2 ⟨j, mem_out.2 ⟨hj, hf⟩, rfl⟩
theorem IsRot.len (h : IsRot es v l) : l.length = deg es v := by
  have h1 := h.once.length_le_of_subset h.sub
  rw [List.length_map] at h1
  have h2 := h.all
  unfold deg at h2 ⊢
  omega
theorem IsRot.mem (h : IsRot es v l) {j : Nat} (hj : j < 2 * es.length) (hf : Cs.fr es j = v) : (j : Int) ∈ l := by
  refine Decidable.byContradiction fun hn => ?_
  have hN : ((j : Int) :: l).Nodup := List.nodup_cons.2 ⟨hn, h.once⟩
  have h1 := hN.length_le_of_subset (l₂ := (Cs.out es v (2 * es.length)).map (fun j : Nat => (j : Int))) (by
    intro x hx
    rcases List.mem_cons.1 hx with rfl | hx
    · exact List.mem_map.2 ⟨j, mem_out.2 ⟨hj, hf⟩, rfl⟩
    · exact h.sub hx)
  rw [List.length_map, List.length_cons, h.len] at h1
  unfold deg at h1
  omega
end

theorem nodup_at {l : List Int} (h : l.Nodup) {i j : Nat} {x : Int} (hi : l[i]? = some x) (hj : l[j]? = some x) : i = j := by
  obtain ⟨h1, rfl⟩ := List.getElem?_eq_some_iff.1 hi
  obtain ⟨h2, e⟩ := List.getElem?_eq_some_iff.1 hj
  rcases Nat.lt_trichotomy i j with c | c | c
  · exact absurd e.symm (List.pairwise_iff_getElem.1 h i j h1 h2 c)
  · exact c
  · exact absurd e (List.pairwise_iff_getElem.1 h j i h2 h1 c)

theorem lt_at {α : Type} {l : List α} {i : Nat} {x : α} (h : l[i]? = some x) : i < l.length := (List.getElem?_eq_some_iff.1 h).1
theorem getD_of {l : List Int} {i : Nat} {x : Int} (h : l[i]? = some x) : l.getD i 0 = x := by simp [List.getD, h]
theorem at_getD {l : List Int} {i : Nat} (h : i < l.length) : l[i]? = some (l.getD i 0) := by simp [List.getD, h]

/-- A list's elements' places, all else as before. -/
theorem row_other {l : List Int} {j : Nat} : ∀ {k : Nat} {acc : List Int}, k ≤ l.length → (∀ i, i < k → (l.getD i 0).toNat ≠ j) → (row l k acc)[j]? = acc[j]?
  | 0, _, _, _ => rfl
  | k + 1, acc, hk, h => by
    rw [row, List.getElem?_set_ne (h k (by omega))]
    exact row_other (by omega) fun i hi => h i (by omega)
theorem row_at {l : List Int} (hN : l.Nodup) (h0 : ∀ x ∈ l, 0 ≤ x) {i : Nat} : ∀ {k : Nat} {acc : List Int}, k ≤ l.length → i < k → (l.getD i 0).toNat < acc.length → (row l k acc)[(l.getD i 0).toNat]? = some (l.getD ((i + 1) % l.length) 0)
  | 0, _, _, h, _ => by omega
  | k + 1, acc, hk, hi, hb => by
    rw [row]
    by_cases e : i = k
    · subst e
      rw [List.getElem?_set_self (by rw [row_len]; exact hb)]
    · have hne : (l.getD k 0).toNat ≠ (l.getD i 0).toNat := by
        intro hc
        have a1 := at_getD (l := l) (i := i) (by omega)
        have a2 := at_getD (l := l) (i := k) (by omega)
        have b1 := h0 _ (List.mem_of_getElem? a1)
        have b2 := h0 _ (List.mem_of_getElem? a2)
        have hc2 : l.getD k 0 = l.getD i 0 := by omega
        rw [hc2] at a2
        exact e (nodup_at hN a1 a2)
      rw [List.getElem?_set_ne hne]
      exact row_at hN h0 (by omega) (by omega) hb

section
variable {n : Int} {es : List (Int × Int)} {ls : List (List Int)}

theorem Rot.nonneg (h : Rot n es ls) {v : Nat} {l : List Int} (hl : ls[v]? = some l) : ∀ x ∈ l, 0 ≤ x := fun x hx => by
  obtain ⟨j, rfl, -, -⟩ := lv_nat ((h.each v l hl).lv x hx)
  omega

theorem nx_at (h : Rot n es ls) {v i : Nat} {l : List Int} (hl : ls[v]? = some l) (hi : i < l.length) : ∀ {k : Nat} {acc : List Int}, acc.length = 2 * es.length → k ≤ ls.length → v < k → (nx ls k acc)[(l.getD i 0).toNat]? = some (l.getD ((i + 1) % l.length) 0)
  | 0, _, _, _, h => by omega
  | k + 1, acc, ha, hk, hv => by
    obtain ⟨j, hj, hjm, hjf⟩ := h.half hl (at_getD hi)
    rw [nx]
    by_cases e : v = k
    · subst e
      have e2 : ls.getD v [] = l := by simp [List.getD, hl]
      rw [e2]
      exact row_at (h.each v l hl).once (h.nonneg hl) (Nat.le_refl _) hi (by rw [nx_len, ha, hj]; simpa using hjm)
    · have hk1 : k < ls.length := by omega
      have hlk : ls[k]? = some (ls.getD k []) := by simp [List.getD, hk1]
      rw [row_other (Nat.le_refl _) ?_]
      · exact nx_at h hl hi ha (by omega) (by omega)
      · intro i' hi' hc
        obtain ⟨j', hj', -, hjf'⟩ := h.half hlk (at_getD hi')
        rw [hj, hj'] at hc
        have : j' = j := by simpa using hc
        subst this
        omega

/-- The element after the i-th. -/
theorem Rot.next (h : Rot n es ls) {v i : Nat} {l : List Int} {x : Int} (hl : ls[v]? = some l) (hx : l[i]? = some x) : (nextL es ls)[x.toNat]? = some (l.getD ((i + 1) % l.length) 0) := by
  have hi := lt_at hx
  have hv := lt_at hl
  have := nx_at h hl hi (k := ls.length) (acc := List.replicate (2 * es.length) 0) (by simp) (Nat.le_refl _) hv
  rw [getD_of hx] at this
  exact this

/-- Each half-edge has its place. -/
theorem Rot.place (h : Rot n es ls) {j : Nat} (hj : j < 2 * es.length) (hf : (Cs.fr es j : Int) < n) : ∃ (l : List Int) (i : Nat), ls[Cs.fr es j]? = some l ∧ l[i]? = some (j : Int) ∧ l.length = deg es (Cs.fr es j) := by
  have hlt : Cs.fr es j < ls.length := by have := h.len; omega
  have hl : ls[Cs.fr es j]? = some ls[Cs.fr es j] := by simp [hlt]
  obtain ⟨i, hi⟩ := List.mem_iff_getElem?.1 ((h.each _ _ hl).mem hj rfl)
  exact ⟨_, i, hl, hi, (h.each _ _ hl).len⟩

/-- What is next is a half-edge of the same vertex. -/
theorem Rot.nextAt (h : Rot n es ls) {j : Nat} (hj : j < 2 * es.length) (hf : (Cs.fr es j : Int) < n) : ∃ t : Nat, (nextL es ls)[j]? = some (t : Int) ∧ t < 2 * es.length ∧ Cs.fr es t = Cs.fr es j := by
  obtain ⟨l, i, hl, hi, -⟩ := h.place hj hf
  have h1 := h.next hl hi
  have hil := lt_at hi
  obtain ⟨t, ht, htm, htf⟩ := h.half hl (at_getD (i := (i + 1) % l.length) (Nat.mod_lt _ (by omega)))
  rw [ht] at h1
  exact ⟨t, by simpa using h1, htm, htf⟩

theorem mod_inj {a b d : Nat} (ha : a < d) (hb : b < d) (h : (a + 1) % d = (b + 1) % d) : a = b := by
  rcases Nat.lt_or_ge (a + 1) d with h1 | h1 <;> rcases Nat.lt_or_ge (b + 1) d with h2 | h2
  · rw [Nat.mod_eq_of_lt h1, Nat.mod_eq_of_lt h2] at h
    omega
  · have : b + 1 = d := by omega
    rw [Nat.mod_eq_of_lt h1, this, Nat.mod_self] at h
    omega
  · have : a + 1 = d := by omega
    rw [Nat.mod_eq_of_lt h2, this, Nat.mod_self] at h
    omega
  · omega

/-- No two have the same next. -/
theorem Rot.inj (h : Rot n es ls) (hfr : ∀ j, j < 2 * es.length → (Cs.fr es j : Int) < n) {a b : Nat} {t : Int} (ha : (nextL es ls)[a]? = some t) (hb : (nextL es ls)[b]? = some t) : a = b := by
  have hal : a < 2 * es.length := by have := lt_at ha; rwa [nextL_len] at this
  have hbl : b < 2 * es.length := by have := lt_at hb; rwa [nextL_len] at this
  obtain ⟨l, i, hl, hi, -⟩ := h.place hal (hfr a hal)
  obtain ⟨l', i', hl', hi', -⟩ := h.place hbl (hfr b hbl)
  have h1 := h.next hl hi
  have h2 := h.next hl' hi'
  simp only [Int.toNat_natCast] at h1 h2
  have e1 : t = l.getD ((i + 1) % l.length) 0 := by rw [ha] at h1; exact Option.some.inj h1
  have e2 : t = l'.getD ((i' + 1) % l'.length) 0 := by rw [hb] at h2; exact Option.some.inj h2
  have hil := lt_at hi
  have hil' := lt_at hi'
  have a1 := at_getD (l := l) (i := (i + 1) % l.length) (Nat.mod_lt _ (by omega))
  have a2 := at_getD (l := l') (i := (i' + 1) % l'.length) (Nat.mod_lt _ (by omega))
  rw [← e1] at a1
  rw [← e2] at a2
  obtain ⟨u, hu, -, hf1⟩ := h.half hl a1
  obtain ⟨u', hu', -, hf2⟩ := h.half hl' a2
  have huu : u = u' := by omega
  subst huu
  have hff : Cs.fr es a = Cs.fr es b := by omega
  rw [← hff, hl] at hl'
  cases hl'
  have := mod_inj hil hil' (nodup_at (h.each _ _ hl).once a1 a2)
  subst this
  rw [hi] at hi'
  have := Option.some.inj hi'
  omega

theorem mod_back {i s d : Nat} (hi : i < d) (hs : 0 < s) (hd : s ≤ d) : (i + s) % d = i ↔ s = d := by
  constructor
  · intro h
    rcases Nat.lt_or_ge (i + s) d with c | c
    · rw [Nat.mod_eq_of_lt c] at h
      omega
    · rw [Nat.mod_eq_sub_mod c] at h
      rw [Nat.mod_eq_of_lt (by omega)] at h
      omega
  · rintro rfl
    rw [Nat.add_mod_right, Nat.mod_eq_of_lt hi]

/-- s steps from the i-th. -/
theorem Rot.step (h : Rot n es ls) {v i s : Nat} {l : List Int} (hl : ls[v]? = some l) (hi : i < l.length) : ∃ t t' : Nat, l[(i + s) % l.length]? = some (t : Int) ∧ l[(i + (s + 1)) % l.length]? = some (t' : Int) ∧ t < 2 * es.length ∧ Cs.fr es t = v ∧ (nextL es ls)[t]? = some (t' : Int) := by
  have a1 := at_getD (l := l) (i := (i + s) % l.length) (Nat.mod_lt _ (by omega))
  have a2 := at_getD (l := l) (i := (i + (s + 1)) % l.length) (Nat.mod_lt _ (by omega))
  obtain ⟨t, ht, htm, htf⟩ := h.half hl a1
  obtain ⟨t', ht', -, -⟩ := h.half hl a2
  have h1 := h.next hl a1
  rw [ht] at a1 h1
  rw [ht'] at a2
  refine ⟨t, t', a1, a2, htm, htf, ?_⟩
  have e : ((i + s) % l.length + 1) % l.length = (i + (s + 1)) % l.length := by
    rw [Nat.mod_add_mod, Nat.add_assoc]
  rw [e, getD_of a2] at h1
  simpa using h1
end
end Ro
end Go.Proofs.Ytfkmldopfhdbkaa

/-
  The order of edges as the program asks it: cmp.Compare, cmp.Or, compare; as the document does: Less.
-/
namespace Go.Proofs.Ytfkmldopfhdbkaa
open Go.RowKit Go.Sort

/-- An edge as a value. -/
def edgeVal (e : Int × Int) : Value := .agg #[.int .i64 e.1, .int .i64 e.2]

theorem new2 (W : World) (k : Nat) (hk : W.heap.size = k) (x y : Value) (t : TypeId) : (W.alloc (.cells #[x, y] t)).cell? ⟨k, 0, none⟩ = some x ∧ (W.alloc (.cells #[x, y] t)).cell? ⟨k, 1, none⟩ = some y := by
  subst hk
  constructor <;> simp

theorem new2d (W : World) (k : Nat) (hk : W.heap.size = k) (x y : Value) (t : TypeId) : (W.alloc (.cells #[x, y] t)).drew.cell? ⟨k, 0, none⟩ = some x ∧ (W.alloc (.cells #[x, y] t)).drew.cell? ⟨k, 1, none⟩ = some y := new2 W k hk x y t

theorem size2 (W : World) (x y : Obj) : ((W.alloc x).alloc y).heap.size = W.heap.size + 1 + 1 := by simp

def Si.cmpInt (x y : Int) : Int := if x < y then -1 else if y < x then 1 else 0

set_option maxHeartbeats 400000 in
theorem cmpInt_any (x y : Int) (w : World) : Calls Try.prog 74 #[.int .i64 x, .int .i64 y] w fun e w' => e = .returned (.int .i64 (Si.cmpInt x y)) ∧ w' = w := by
  unfold Si.cmpInt
  by_cases h1 : x < y
  · rw [if_pos h1]
    go_enter Try.func74, Try.ntmps74
    go_wp2
    go_ret
    exact ⟨rfl, rfl⟩
  · rw [if_neg h1]
    by_cases h2 : y < x
    · rw [if_pos h2]
      go_enter Try.func74, Try.ntmps74
      go_wp2
      go_ret
      exact ⟨rfl, rfl⟩
    · rw [if_neg h2]
      go_enter Try.func74, Try.ntmps74
      go_wp2
      go_ret
      exact ⟨rfl, rfl⟩

def Si.orInt (p q : Int) : Int := if p ≠ 0 then p else q

theorem cf_or (a b : Int × Int) : Si.cf a b = Si.orInt (Si.cmpInt a.1 b.1) (Si.cmpInt a.2 b.2) := by
  unfold Si.cf Si.cmpInt Si.orInt
  by_cases h1 : a.1 < b.1
  · simp [h1]
  · by_cases h2 : b.1 < a.1
    · simp [h1, h2]
    · simp [h1, h2]

set_option maxHeartbeats 1000000 in
theorem or_any (p q : Int) (W : World) (b : Nat) (h0 : W.cell? ⟨b, 0, none⟩ = some (.int .i64 p)) (h1 : W.cell? ⟨b, 1, none⟩ = some (.int .i64 q)) : Calls Try.prog 73 #[.slice (some ⟨b, 0, none⟩) 2 2] W fun e w' => e = .returned (.int .i64 (Si.orInt p q)) ∧ w' = W := by
  unfold Si.orInt
  by_cases hp : p = 0
  · subst hp
    rw [if_neg (by simp)]
    by_cases hq : q = 0
    · subst hq
      go_enter Try.func73, Try.ntmps73
      go_wp2
      refine wp_loop_rounds 3 ?_
      rw [rounds_succ]
      go_wp2
      rw [rounds_succ]
      go_wp2
      rw [rounds_succ]
      go_wp2
      go_ret
      exact ⟨rfl, rfl⟩
    · go_enter Try.func73, Try.ntmps73
      go_wp2
      refine wp_loop_rounds 3 ?_
      rw [rounds_succ]
      go_wp2
      rw [rounds_succ]
      go_wp2
      go_ret
      exact ⟨rfl, rfl⟩
  · rw [if_pos hp]
    go_enter Try.func73, Try.ntmps73
    go_wp2
    refine wp_loop_rounds 3 ?_
    rw [rounds_succ]
    go_wp2
    go_ret
    exact ⟨rfl, rfl⟩

set_option maxRecDepth 100000 in
set_option maxHeartbeats 4000000 in
theorem compare_any (a b : Int × Int) (w : World) : Calls Try.prog 57 #[edgeVal a, edgeVal b] w fun e w' => e = .returned (.int .i64 (Si.cf a b)) ∧ ∃ q os', w' = grow (w.drewN q) os' := by
  rw [cf_or]
  unfold edgeVal
  go_enter Try.func57, Try.ntmps57
  go_wp2
  go_region_held3 (fun w' => w'.cell? ⟨w.heap.size, 0, none⟩ = some (.int .i64 a.1) ∧ w'.cell? ⟨w.heap.size, 1, none⟩ = some (.int .i64 a.2) ∧ w'.cell? ⟨w.heap.size + 1, 0, none⟩ = some (.int .i64 b.1) ∧ w'.cell? ⟨w.heap.size + 1, 1, none⟩ = some (.int .i64 b.2))
    (go_keep)
    (first
      | (go_at_call 74; refine (cmpInt_any _ _ _).mono ?_; rintro e w' ⟨rfl, rfl⟩)
      | (go_at_call 73; refine (or_any (Si.cmpInt a.1 b.1) (Si.cmpInt a.2 b.2) _ _ (new2d _ _ (size2 _ _ _) _ _ _).1 (new2d _ _ (size2 _ _ _) _ _ _).2).mono ?_; rintro e w' ⟨rfl, rfl⟩))
  go_wp2
  go_ret
  exact ⟨rfl, 1, _, by rw [alloc_eq_grow, alloc_eq_grow, grow_grow, alloc_eq_grow, grow_grow]; rfl⟩

theorem grow_below (w : World) (q : Nat) (os : Array Obj) : Below w.heap.size w (grow (w.drewN q) os) := by
  refine ⟨rfl, rfl, rfl, by simp [grow], fun k hk => ?_⟩
  simp [grow, Array.getElem?_append_left hk]

end Go.Proofs.Ytfkmldopfhdbkaa

/-
  Edges and graphs in memory.
-/
namespace Go.Proofs.Ytfkmldopfhdbkaa
open Go.RowKit

/-- The edges es lie at ao. -/
def EdgesAt (w : World) (ao : Option Addr) (es : List (Int × Int)) : Prop :=
  ∀ (j : Nat) (p : Int × Int), es[j]? = some p → ∃ b o : Nat, ao = some ⟨b, o, none⟩ ∧ w.cell? ⟨b, o + j * 2, none⟩ = some (.int .i64 p.1) ∧ w.cell? ⟨b, o + j * 2 + 1, none⟩ = some (.int .i64 p.2)

theorem EdgesAt.later {w w' : World} {ao : Option Addr} {es : List (Int × Int)} (h : EdgesAt w ao es) (hb : Below w.heap.size w w') : EdgesAt w' ao es := fun j p hj => by
  obtain ⟨b, o, e, h0, h1⟩ := h j p hj
  exact ⟨b, o, e, (hb.cell (p := ⟨b, o + j * 2, none⟩) (block_lt_of_cell h0)).trans h0, (hb.cell (p := ⟨b, o + j * 2 + 1, none⟩) (block_lt_of_cell h1)).trans h1⟩

theorem EdgesAt.nil (w : World) (ao : Option Addr) : EdgesAt w ao [] := fun j p hj => by simp at hj

/-- A graph as a value. -/
def graphVal (n : Int) (ao : Option Addr) (len cap : Nat) : Value := .agg #[.int .i64 n, .slice ao len cap]

end Go.Proofs.Ytfkmldopfhdbkaa

/-
  Whether a graph is valid, as the program asks it.
-/
namespace Go.Proofs.Ytfkmldopfhdbkaa
open Go.RowKit Go.Sort

namespace Si

/-- The first k edges are as a valid graph's; l is the one before. -/
def UpTo (n : Int) (es : List (Int × Int)) (k : Nat) (l : Int × Int) : Prop :=
  (∀ (j : Nat) (p : Int × Int), j < k → es[j]? = some p → ok n p) ∧ (∀ (j : Nat) (p q : Int × Int), j + 1 < k → es[j]? = some p → es[j + 1]? = some q → lt p q) ∧ ((k = 0 ∧ l = (0, 0)) ∨ ∃ k', k = k' + 1 ∧ es[k']? = some l)

theorem UpTo.start (n : Int) (es : List (Int × Int)) : UpTo n es 0 (0, 0) := ⟨fun j p h => by omega, fun j p q h => by omega, .inl ⟨rfl, rfl⟩⟩

theorem UpTo.step {n : Int} {es : List (Int × Int)} {k : Nat} {l p : Int × Int} (h : UpTo n es k l) (hp : es[k]? = some p) (ho : ok n p) (hl : lt l p) : UpTo n es (k + 1) p := by
  refine ⟨fun j q hj hq => ?_, fun j q r hj hq hr => ?_, .inr ⟨k, rfl, hp⟩⟩
  · by_cases hjk : j = k
    · subst hjk; rw [hp] at hq; cases hq; exact ho
    · exact h.1 j q (by omega) hq
  · by_cases hjk : j + 1 = k
    · subst hjk
      rw [hp] at hr
      cases hr
      rcases h.2.2 with ⟨h0, _⟩ | ⟨k', hk, hl'⟩
      · omega
      · obtain rfl : j = k' := by omega
        rw [hl'] at hq
        cases hq
        exact hl
    · exact h.2.1 j q r (by omega) hq hr

theorem UpTo.must {n : Int} {es : List (Int × Int)} {k : Nat} {l p : Int × Int} (h : UpTo n es k l) (hv : Val n es) (hp : es[k]? = some p) : ok n p ∧ lt l p := by
  have ho := hv.each k p hp
  refine ⟨ho, ?_⟩
  rcases h.2.2 with ⟨rfl, rfl⟩ | ⟨k', rfl, hl⟩
  · unfold ok at ho
    unfold lt
    dsimp only
    omega
  · exact hv.up k' l p hl hp

theorem UpTo.done {n : Int} {es : List (Int × Int)} {l : Int × Int} (h : UpTo n es es.length l) (h0 : 0 ≤ n) (h1 : n ≤ 1048576) (h2 : es.length ≤ 4194304) : Val n es := by
  have lim : ∀ (j : Nat) (p : Int × Int), es[j]? = some p → j < es.length := fun j p hj => by
    rcases Nat.lt_or_ge j es.length with hl | hl
    · exact hl
    · rw [List.getElem?_eq_none hl] at hj; cases hj
  exact ⟨h0, h1, h2, fun j p hj => h.1 j p (lim j p hj) hj, fun j p q hp hq => h.2.1 j p q (lim _ _ hq) hp hq⟩

end Si

theorem pair_cells {w : World} {b : Nat} {t : TypeId} {x y : Value} (h : w.heap[b]? = some (.cells #[x, y] t (0, 0))) : w.cell? ⟨b, 0, none⟩ = some x ∧ w.cell? ⟨b, 1, none⟩ = some y ∧ ∀ i, w.frozen? ⟨b, i, none⟩ = false := by
  refine ⟨by simp [World.cell?, h], by simp [World.cell?, h], fun i => by simp [World.frozen?, h]⟩

theorem pair_set {w : World} {b : Nat} {t : TypeId} {x y : Value} (h : w.heap[b]? = some (.cells #[x, y] t (0, 0))) (x' y' : Value) : ((w.setCell ⟨b, 0, none⟩ x').setCell ⟨b, 1, none⟩ y').heap[b]? = some (.cells #[x', y'] t (0, 0)) := by
  have h1 := heap_setCell_same w b 0 _ t x' h
  have h2 := heap_setCell_same _ b 1 _ t y' h1
  simpa using h2

theorem pair_set_other {w : World} {b k : Nat} (hk : k ≠ b) (x' y' : Value) : ((w.setCell ⟨b, 0, none⟩ x').setCell ⟨b, 1, none⟩ y').heap[k]? = w.heap[k]? := by
  rw [heap_setCell_other _ ⟨b, 1, none⟩ k y' hk, heap_setCell_other _ ⟨b, 0, none⟩ k x' hk]

set_option maxRecDepth 100000 in
set_option maxHeartbeats 4000000 in
theorem valid_any (n : Int) (ao : Option Addr) (cap : Nat) (es : List (Int × Int)) (w : World) (he : EdgesAt w ao es) (hl : es.length ≤ 4611686018427387904) :
    Calls Try.prog 39 #[graphVal n ao es.length cap] w fun e w' => e = .returned (.bool (Si.valid n es)) ∧ Below w.heap.size w w' := by
  have HE := Nu.hid he
  clear he
  unfold graphVal
  by_cases h1 : n < 0
  · have hv := Si.valid_no (n := n) (es := es) (fun h => by have := h.lo; omega)
    rw [hv]
    go_enter Try.func39, Try.ntmps39
    go_wp2
    go_ret
    exact ⟨rfl, (Below.refl _ _).alloc (Nat.le_refl _) _⟩
  · by_cases h2 : 1048576 < n
    · have hv := Si.valid_no (n := n) (es := es) (fun h => by have := h.hi; omega)
      rw [hv]
      go_enter Try.func39, Try.ntmps39
      go_wp2
      go_ret
      exact ⟨rfl, (Below.refl _ _).alloc (Nat.le_refl _) _⟩
    · by_cases h3 : 4194304 < (es.length : Int)
      · have hv := Si.valid_no (n := n) (es := es) (fun h => by have := h.few; omega)
        rw [hv]
        go_enter Try.func39, Try.ntmps39
        go_wp2
        go_ret
        exact ⟨rfl, (Below.refl _ _).alloc (Nat.le_refl _) _⟩
      · go_enter Try.func39, Try.ntmps39
        go_wp2
        go_loopw [23] (fun c wr => ∃ (k : Nat) (l : Int × Int), k ≤ es.length ∧ c = .int .i64 k ∧ Si.UpTo n es k l ∧ wr.heap[w.heap.size]? = some (.cells #[.int .i64 n, .slice ao es.length cap] 24 (0, 0)) ∧ wr.heap[w.heap.size + 1]? = some (.cells #[.int .i64 l.1, .int .i64 l.2] 56 (0, 0)) ∧ Below w.heap.size w wr) (fun c _ => es.length - (intOf c).toNat)
        case atStart =>
          refine ⟨0, (0, 0), Nat.zero_le _, rfl, Si.UpTo.start n es, ?_, ?_, ((Below.refl _ _).alloc (Nat.le_refl _) _).alloc (by simp) _⟩
          · rw [Below.heap_alloc _ _ _ (by simp)]
            exact heap_alloc_new w _
          · have := heap_alloc_new (w.alloc (.cells #[.int .i64 n, .slice ao es.length cap] 24)) (.cells #[.int .i64 0, .int .i64 0] 56)
            simpa using this
        case round =>
          obtain ⟨k, l, hk, rfl, hup, hgb, hlb, hb⟩ := hrel
          by_cases hlt : k < es.length
          · have hlti : (k : Int) < (es.length : Int) := by omega
            have hk0 : (0 : Int) ≤ (k : Int) := by omega
            obtain ⟨p, hp⟩ : ∃ p, es[k]? = some p := ⟨_, List.getElem?_eq_getElem hlt⟩
            obtain ⟨b, o, rfl, c0, c1⟩ := (HE.out.later hb) k p hp
            obtain ⟨g0, -, -⟩ := pair_cells hgb
            obtain ⟨l0, l1, lf⟩ := pair_cells hlb
            have hsz := lt_of_block hlb
            have hsz0 := lt_of_block hgb
            have hbl : b < wr.heap.size := block_lt_of_cell c0
            have HUP := Nu.hid hup
            have HP := Nu.hid hp
            have HGB := Nu.hid hgb
            have HLB := Nu.hid hlb
            have HB := Nu.hid hb
            clear hup hp hgb hlb hb
            by_cases q1 : p.1 < 0
            · have hv := Si.valid_no (n := n) (es := es) (fun h => by have := (HUP.out.must h HP.out).1.1; omega)
              go_wp2
              go_ret
              exact ⟨by first | rfl | exact congrArg (fun b => Ending.returned (.bool b)) hv.symm, HB.out.alloc (by omega) _⟩
            · by_cases q2 : p.1 < p.2
              · by_cases q3 : p.2 < n
                · have hca := fun W => compare_any l p W
                  unfold edgeVal at hca
                  have HCA := Nu.hid hca
                  clear hca
                  by_cases q4 : Si.lt l p
                  · have hcf := Si.cf_neg.2 q4
                    generalize Si.cf l p = r at HCA hcf
                    go_wp2_with (go_at_call 57; refine (HCA.out _).mono ?_; rintro e w' ⟨rfl, hgr⟩; refine Hid.out ?_)
                    refine Nu.hid ?_
                    obtain ⟨qn, os', rfl⟩ := hgr
                    have hb1 := grow_below (wr.alloc (.cells #[.int .i64 p.1, .int .i64 p.2] 56)) qn os'
                    have hb2 : Below wr.heap.size wr (grow ((wr.alloc (.cells #[.int .i64 p.1, .int .i64 p.2] 56)).drewN qn) os') := ((Below.refl _ _).alloc (Nat.le_refl _) _).trans (hb1.mono (by simp))
                    have hnew : (grow ((wr.alloc (.cells #[.int .i64 p.1, .int .i64 p.2] 56)).drewN qn) os').heap[wr.heap.size]? = some (.cells #[.int .i64 p.1, .int .i64 p.2] 56 (0, 0)) := (hb1.block _ (by simp)).trans (heap_alloc_new wr _)
                    generalize grow ((wr.alloc (.cells #[.int .i64 p.1, .int .i64 p.2] 56)).drewN qn) os' = w2 at hb2 hnew ⊢
                    have HLB2 := Nu.hid ((hb2.block _ hsz).trans HLB.out)
                    have HGB2 := Nu.hid ((hb2.block _ hsz0).trans HGB.out)
                    obtain ⟨m0, m1, mf⟩ := pair_cells HLB2.out
                    obtain ⟨n0, n1, -⟩ := pair_cells hnew
                    have hsz2 := hb2.size
                    have HB2 := Nu.hid (HB.out.trans (hb2.mono (by omega)))
                    clear hb1 hb2 hnew c0 c1 g0 l0 l1 lf
                    go_wp2
                    go_roundw
                    case rel => exact ⟨k + 1, p, by omega, by go_num, HUP.out.step HP.out ⟨by omega, q2, q3⟩ q4, (pair_set_other (by omega) _ _).trans HGB2.out, pair_set HLB2.out _ _, (HB2.out.setCell (by simp) _).setCell (by simp) _⟩
                    case measure => simp [intOf]; omega
                  · have hv := Si.valid_no (n := n) (es := es) (fun h => q4 (HUP.out.must h HP.out).2)
                    have hcf : ¬ (Si.cf l p < 0) := fun h => q4 (Si.cf_neg.1 h)
                    generalize Si.cf l p = r at HCA hcf
                    go_wp2_with (go_at_call 57; refine (HCA.out _).mono ?_; rintro e w' ⟨rfl, hgr⟩; refine Hid.out ?_)
                    refine Nu.hid ?_
                    obtain ⟨qn, os', rfl⟩ := hgr
                    have hb1 := grow_below (wr.alloc (.cells #[.int .i64 p.1, .int .i64 p.2] 56)) qn os'
                    generalize grow ((wr.alloc (.cells #[.int .i64 p.1, .int .i64 p.2] 56)).drewN qn) os' = w2 at hb1 ⊢
                    have HB2 := Nu.hid ((HB.out.alloc (by omega) _).trans (hb1.mono (by simp; omega)))
                    clear hb1
                    go_wp2
                    go_ret
                    exact ⟨by first | rfl | exact congrArg (fun b => Ending.returned (.bool b)) hv.symm, HB2.out⟩
                · have hv := Si.valid_no (n := n) (es := es) (fun h => by have := (HUP.out.must h HP.out).1.2.2; omega)
                  go_wp2
                  go_ret
                  exact ⟨by first | rfl | exact congrArg (fun b => Ending.returned (.bool b)) hv.symm, HB.out.alloc (by omega) _⟩
              · have hv := Si.valid_no (n := n) (es := es) (fun h => by have := (HUP.out.must h HP.out).1.2.1; omega)
                go_wp2
                go_ret
                exact ⟨by first | rfl | exact congrArg (fun b => Ending.returned (.bool b)) hv.symm, HB.out.alloc (by omega) _⟩
          · obtain rfl : k = es.length := by omega
            have hv := Si.valid_iff.2 (hup.done (by omega) (by omega) (by omega))
            have HB := Nu.hid hb
            clear hb hup hgb hlb
            go_wp2
            go_ret
            exact ⟨by first | rfl | exact congrArg (fun b => Ending.returned (.bool b)) hv.symm, HB.out⟩

end Go.Proofs.Ytfkmldopfhdbkaa

/-
  A block of numbers that a call makes.
-/
namespace Go.Proofs.Ytfkmldopfhdbkaa
open Go.RowKit

theorem Try.infoNum : (Try.prog.info? 3).map (fun i => (i.zero, i.size, i.bytes)) = some (some (.int .i64 0), 1, 8) := by kernel_rfl

/-- Block g holds just the numbers l. -/
def IntsBlk (w : World) (g : Nat) (l : List Int) : Prop := w.heap[g]? = some (.cells (l.map (Value.int .i64)).toArray 3 (0, 0))

section
variable {w w' : World} {g : Nat} {l : List Int}
theorem IntsBlk.lt (h : IntsBlk w g l) : g < w.heap.size := lt_of_block h
theorem IntsBlk.cell (h : IntsBlk w g l) {i : Nat} {x : Int} (hx : l[i]? = some x) : w.cell? ⟨g, i, none⟩ = some (.int .i64 x) := by
  unfold IntsBlk at h
  simp [World.cell?, h, hx]
theorem IntsBlk.free (h : IntsBlk w g l) (i : Nat) : w.frozen? ⟨g, i, none⟩ = false := by
  unfold IntsBlk at h
  simp [World.frozen?, h]
theorem IntsBlk.set (h : IntsBlk w g l) (i : Nat) (x : Int) : IntsBlk (w.setCell ⟨g, i, none⟩ (.int .i64 x)) g (l.set i x) := by
  unfold IntsBlk at h ⊢
  rw [heap_setCell_same w g i _ _ _ h]
  simp [List.map_set]
theorem IntsBlk.below {B : Nat} (h : IntsBlk w g l) (hb : Below B w w') (hB : g < B) : IntsBlk w' g l := (hb.block g hB).trans h
theorem IntsBlk.later (h : IntsBlk w g l) (hb : Below w.heap.size w w') : IntsBlk w' g l := (hb.block g h.lt).trans h
theorem IntsBlk.alloc (h : IntsBlk w g l) (o : Obj) : IntsBlk (w.alloc o) g l := (Below.heap_alloc w o g h.lt).trans h
end

theorem made_zeros (n : Nat) : (madeCells #[.int .i64 0] n).toList = (List.replicate n (0 : Int)).map (Value.int .i64) := by
  rw [toList_madeCells_one, List.map_replicate]

/-- A list that was made at its full length. -/
theorem ints_of_row {w : World} {B g n : Nat} {xs : List Int} (h : w.ownsRow B 3 1 (.slice (some ⟨g, 0, none⟩) n n) n (xs.map (Value.int .i64))) : IntsBlk w g xs := by
  rcases h.2 with ⟨h, _⟩ | ⟨g', cap, cur, e, _, hh, _, _, hs, ht⟩
  · cases h
  cases e
  have e1 : cur.toList = xs.map (Value.int .i64) := by
    rw [← ht]
    exact (List.take_of_length_le (by simp; omega)).symm
  unfold IntsBlk
  rw [hh, ← e1]

end Go.Proofs.Ytfkmldopfhdbkaa

/-
  How often each vertex is an end.
-/
namespace Go.Proofs.Ytfkmldopfhdbkaa
open Go.RowKit

namespace Si
theorem bump_length (l : List Int) (v : Int) : (bump l v).length = l.length := by simp [bump]

theorem degs_snoc (n : Int) (es : List (Int × Int)) (p : Int × Int) : degs n (es ++ [p]) = bump (bump (degs n es) p.1) p.2 := by simp [degs, List.foldl_append]

theorem degs_length (n : Int) (es : List (Int × Int)) : (degs n es).length = n.toNat := by
  unfold degs
  suffices h : ∀ (es : List (Int × Int)) (l : List Int), (es.foldl (fun l e => bump (bump l e.1) e.2) l).length = l.length by rw [h]; simp
  intro es
  induction es with
  | nil => intro l; rfl
  | cons e es ih => intro l; rw [List.foldl_cons, ih, bump_length, bump_length]

/-- All numbers lie between 0 and m. -/
def Upto (m : Int) (l : List Int) : Prop := ∀ (j : Nat) (x : Int), l[j]? = some x → 0 ≤ x ∧ x ≤ m

theorem Upto.bump {m : Int} {l : List Int} (h : Upto m l) (v : Int) : Upto (m + 1) (bump l v) := by
  intro j x hx
  unfold Si.bump at hx
  rw [List.getElem?_set] at hx
  by_cases hv : v.toNat = j
  · rw [if_pos hv] at hx
    split at hx
    · cases hx
      rename_i hl
      have e : l[v.toNat]? = some l[v.toNat] := List.getElem?_eq_getElem hl
      have := h _ _ e
      rw [List.getD_eq_getElem?_getD, e]
      dsimp only [Option.getD_some]
      omega
    · cases hx
  · rw [if_neg hv] at hx
    have := h j x hx
    omega

theorem degs_upto (n : Int) (es : List (Int × Int)) : Upto (2 * es.length) (degs n es) := by
  unfold degs
  suffices h : ∀ (es : List (Int × Int)) (l : List Int) (m : Int), Upto m l → Upto (m + 2 * es.length) (es.foldl (fun l e => Si.bump (Si.bump l e.1) e.2) l) by
    have := h es (List.replicate n.toNat 0) 0 (fun j x hx => by
      rw [List.getElem?_replicate] at hx
      split at hx
      · cases hx; omega
      · cases hx)
    simpa using this
  intro es
  induction es with
  | nil => intro l m h; simpa using h
  | cons e es ih =>
    intro l m h
    have := ih _ _ ((h.bump e.1).bump e.2)
    rw [List.foldl_cons]
    have e1 : m + 2 * ((e :: es).length : Int) = m + 1 + 1 + 2 * (es.length : Int) := by simp; omega
    rw [e1]
    exact this
end Si

end Go.Proofs.Ytfkmldopfhdbkaa
