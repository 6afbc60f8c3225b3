import Derived.Test.YtalfpbalekbinaaGreatMg04
import Init
/-
  Ways, vertex by vertex: where a vertex is on the way, and till when.
-/
namespace Go.Proofs.YtalfpbalekbinaaGreat
namespace Df

theorem IsWay.tail {es : List (Int × Int)} {s : St} : ∀ {X Y : List Int}, IsWay es s (X ++ Y) → IsWay es s Y
  | [], _, h => h
  | _ :: _, _, h => IsWay.tail h.2.2

theorem IsWay.pos {es : List (Int × Int)} {s : St} : ∀ {W : List Int}, IsWay es s W → ∀ x ∈ W, 0 ≤ x
  | [], _, x, hx => by simp at hx
  | v :: W, h, x, hx => by
    rcases List.mem_cons.1 hx with rfl | hx
    · exact h.1
    · exact IsWay.pos h.2.2 x hx

/-- The way behind vertex number j. -/
def wayAt (n : Nat) (es : List (Int × Int)) (s : St) (j : Nat) : List Int := ((side n es s (j + 1)).getD ([], [])).1

/-- What is so when k vertices have been come by. -/
structure SideInv (n : Nat) (es : List (Int × Int)) (s : St) (k : Nat) (W B : List Int) : Prop where
  way : IsWay es s W
  sub : ∀ u ∈ W, ∃ a, a < k ∧ at_ s.ord a = u
  nod : W.Nodup
  len : W.length ≤ k
  lenB : B.length = n
  ops : ∀ a, a < k → (at_ s.ord a ∈ W ∧ ∀ j, a ≤ j → j < k → at_ s.ord a ∈ wayAt n es s j) ∨
    (at_ s.ord a ∉ W ∧ ∃ c : Nat, a < c ∧ c ≤ k ∧ at_ B (at_ s.ord a).toNat = (c : Int) ∧ (∀ j, a ≤ j → j < c → at_ s.ord a ∈ wayAt n es s j) ∧ ∀ j, c ≤ j → j < k → at_ s.ord a ∉ wayAt n es s j)
  hist : ∀ j, j < k → (∀ u ∈ wayAt n es s j, ∃ a, a ≤ j ∧ at_ s.ord a = u) ∧ (∃ Y, wayAt n es s j = at_ s.ord j :: Y) ∧ IsWay es s (wayAt n es s j) ∧ (wayAt n es s j).length ≤ j + 1 ∧ (wayAt n es s j).Nodup

section
variable {n : Nat} {es : List (Int × Int)} {s : St}

theorem Once.ne (h : Once n s n) {a b : Nat} (ha : a < n) (hb : b < n) (hab : a ≠ b) : at_ s.ord a ≠ at_ s.ord b := by
  rcases Nat.lt_or_ge a b with h1 | h1
  · exact (h b hb).2 a h1
  · exact fun e => (h a ha).2 b (by omega) e.symm

theorem side_inv (ho : Once n s n) : ∀ k, k ≤ n → ∀ W B, side n es s k = some (W, B) → SideInv n es s k W B := by
  intro k
  induction k with
  | zero =>
    intro _ W B h
    simp only [side, Option.some.injEq, Prod.mk.injEq] at h
    obtain ⟨rfl, rfl⟩ := h
    exact ⟨trivial, by simp, by simp, by simp, by simp, fun a ha => by omega, fun j hj => by omega⟩
  | succ k ih =>
    intro hk W B h
    have hs := h
    unfold side at h
    cases hq : side n es s k with
    | none => rw [hq] at h; cases h
    | some q =>
      obtain ⟨W0, B0⟩ := q
      have inv := ih (by omega) W0 B0 hq
      rw [hq, Option.bind_some] at h
      dsimp only at h
      obtain ⟨v, hv⟩ : ∃ v, at_ s.ord k = v := ⟨_, rfl⟩
      obtain ⟨p, hp⟩ : ∃ p, up es s v = p := ⟨_, rfl⟩
      rw [hv, hp] at h
      obtain ⟨X, hX, hpX, hhd⟩ := leave_way (p := p) (i := (k : Int)) W0 B0
      have hlenB := leave_len (p := p) (i := (k : Int)) W0 B0
      obtain ⟨L, hL⟩ : ∃ L, leave p k W0 B0 = L := ⟨_, rfl⟩
      rw [hL] at h hX hhd hlenB
      split at h
      · cases h
      rename_i hc
      simp only [Option.some.injEq, Prod.mk.injEq] at h
      obtain ⟨rfl, rfl⟩ := h
      have hv0 := (ho k (by omega)).1
      rw [hv] at hv0
      have hsubL : ∀ u ∈ L.1, u ∈ W0 := fun u hu => by rw [hX]; exact List.mem_append_right _ hu
      have hne : ∀ a, a < k → at_ s.ord a ≠ v := fun a ha => by rw [← hv]; exact ho.ne (by omega) (by omega) (by omega)
      have hvL : v ∉ W0 := fun hm => by
        obtain ⟨a, ha, e⟩ := inv.sub v hm
        exact hne a ha e
      have hnodL : L.1.Nodup := by
        have := inv.nod
        rw [hX] at this
        exact (List.nodup_append.1 this).2.1
      have hwayk : wayAt n es s k = v :: L.1 := by
        unfold wayAt
        rw [hs]
        rfl
      have hwayL : IsWay es s L.1 := by
        have := inv.way
        rw [hX] at this
        exact this.tail
      have hway : IsWay es s (v :: L.1) := by
        refine ⟨hv0.1, ?_, hwayL⟩
        rw [hp]
        rcases hhd with h1 | h1
        · rw [h1]
          simp only [List.headD_nil]
          by_cases e : p = -1
          · exact e
          · exact absurd ⟨e, h1⟩ hc
        · exact h1.symm
      have hlenL : L.1.length ≤ k := by
        have := inv.len
        rw [hX, List.length_append] at this
        omega
      have hnod : (v :: L.1).Nodup := List.nodup_cons.2 ⟨fun h => hvL (hsubL v h), hnodL⟩
      refine ⟨hway, ?_, hnod, by simp; omega, by rw [hlenB]; exact inv.lenB, ?_, ?_⟩
      · intro u hu
        rcases List.mem_cons.1 hu with rfl | hu
        · exact ⟨k, by omega, hv⟩
        · obtain ⟨a, ha, e⟩ := inv.sub u (hsubL u hu)
          exact ⟨a, by omega, e⟩
      · intro a ha
        by_cases hak : a = k
        · subst hak
          rw [hv]
          refine .inl ⟨List.mem_cons_self, fun j h1 h2 => ?_⟩
          obtain rfl : j = a := by omega
          rw [hwayk]
          exact List.mem_cons_self
        · have hak' : a < k := by omega
          obtain ⟨u, hu⟩ : ∃ u, at_ s.ord a = u := ⟨_, rfl⟩
          have huv := hne a hak'
          have hu0 := (ho a (by omega)).1
          have hops := inv.ops a hak'
          rw [hu] at huv hu0 hops ⊢
          have hun : (u.toNat : Int) = u := Int.toNat_of_nonneg hu0.1
          rcases hops with ⟨h1, h2⟩ | ⟨h1, c, c1, c2, c3, c4, c5⟩
          · by_cases hin : u ∈ L.1
            · refine .inl ⟨List.mem_cons_of_mem _ hin, fun j j1 j2 => ?_⟩
              by_cases e : j = k
              · subst e; rw [hwayk]; exact List.mem_cons_of_mem _ hin
              · exact h2 j j1 (by omega)
            · refine .inr ⟨fun h => (List.mem_cons.1 h).elim huv hin, k, hak', by omega, ?_, h2, fun j j1 j2 => ?_⟩
              · rw [← hL]
                refine leave_taken W0 B0 inv.way.pos inv.nod (by rw [hun]; exact h1) (by rw [hun, hL]; exact hin) (by rw [inv.lenB]; omega)
              · obtain rfl : j = k := by omega
                rw [hwayk]
                exact fun h => (List.mem_cons.1 h).elim huv hin
          · have hin : u ∉ L.1 := fun h => h1 (hsubL u h)
            refine .inr ⟨fun h => (List.mem_cons.1 h).elim huv hin, c, c1, by omega, ?_, c4, fun j j1 j2 => ?_⟩
            · rw [← hL, leave_other W0 B0 inv.way.pos (.inl (by rw [hun]; exact h1))]
              exact c3
            · by_cases e : j = k
              · subst e
                rw [hwayk]
                exact fun h => (List.mem_cons.1 h).elim huv hin
              · exact c5 j j1 (by omega)
      · intro j hj
        by_cases e : j = k
        · subst e
          rw [hwayk]
          refine ⟨fun u hu => ?_, ⟨L.1, by rw [hv]⟩, hway, by simp; omega, hnod⟩
          rcases List.mem_cons.1 hu with rfl | hu
          · exact ⟨j, Nat.le_refl _, hv⟩
          · obtain ⟨a, ha, e⟩ := inv.sub u (hsubL u hu)
            exact ⟨a, by omega, e⟩
        · exact inv.hist j (by omega)

/-- Where the vertices end. -/
def ends (n : Nat) (W B : List Int) : List Int := (leave (-1) n W B).2

theorem leave_none {W B : List Int} {i : Int} (h : ∀ x ∈ W, 0 ≤ x) : (leave (-1) i W B).1 = [] := by
  obtain ⟨X, hX, _, hh⟩ := leave_way (p := -1) (i := i) W B
  rcases hh with hh | hh
  · exact hh
  · cases hY : (leave (-1) i W B).1 with
    | nil => rfl
    | cons y Y =>
      rw [hY] at hh hX
      have := h y (by rw [hX]; simp)
      simp at hh
      omega

/-- The vertices below u stand from its own place to ahead of where it ends. -/
theorem side_end (ho : Once n s n) {W B : List Int} (h : side n es s n = some (W, B)) {a j : Nat} (ha : a < n) (hj : j < n) :
    at_ s.ord a ∈ wayAt n es s j ↔ a ≤ j ∧ (j : Int) < at_ (ends n W B) (at_ s.ord a).toNat := by
  have inv := side_inv ho n (Nat.le_refl _) W B h
  have hu0 := (ho a ha).1
  have hun : ((at_ s.ord a).toNat : Int) = at_ s.ord a := Int.toNat_of_nonneg hu0.1
  have hearly : ¬ a ≤ j → at_ s.ord a ∉ wayAt n es s j := fun hlt hm => by
    obtain ⟨b, hb, e⟩ := (inv.hist j hj).1 _ hm
    exact ho.ne (a := b) (b := a) (by omega) ha (by omega) e
  rcases inv.ops a ha with ⟨h1, h2⟩ | ⟨h1, c, c1, c2, c3, c4, c5⟩
  · have e : at_ (ends n W B) (at_ s.ord a).toNat = (n : Int) := by
      unfold ends
      exact leave_taken W B inv.way.pos inv.nod (by rw [hun]; exact h1) (by rw [leave_none inv.way.pos]; simp) (by rw [inv.lenB]; omega)
    rw [e]
    constructor
    · intro hm
      by_cases hlt : a ≤ j
      · exact ⟨hlt, by omega⟩
      · exact absurd hm (hearly hlt)
    · exact fun h => h2 j h.1 hj
  · have e : at_ (ends n W B) (at_ s.ord a).toNat = (c : Int) := by
      unfold ends
      rw [leave_other W B inv.way.pos (.inl (by rw [hun]; exact h1))]
      exact c3
    rw [e]
    constructor
    · intro hm
      by_cases hlt : a ≤ j
      · refine ⟨hlt, ?_⟩
        rcases Nat.lt_or_ge j c with h | h
        · omega
        · exact absurd hm (c5 j h hj)
      · exact absurd hm (hearly hlt)
    · exact fun h => c4 j h.1 (by omega)
end

end Df
end Go.Proofs.YtalfpbalekbinaaGreat

/-
  Sorting by small keys as plain functions of lists, with no program in it: ranks, groups, what is sorted, and their laws.
-/
namespace Go.Proofs.YtalfpbalekbinaaGreat
namespace Bu

/-- How many keys are smaller than x. -/
def less (ks : List Int) (x : Int) : Nat := ks.countP (fun z => decide (z < x))

/-- The rank of place i. -/
def rk (ks : List Int) (i : Nat) : Nat := less ks (ks.getD i 0) + (ks.take i).count (ks.getD i 0)

def ranks (ks : List Int) : List Int := (List.range ks.length).map fun i => (rk ks i : Int)

def out (most : Int) : Prop := most < 0 ∨ 4194304 < most
def bad (most z : Int) : Bool := decide (z < 0) || decide (most < z)
/-- The number of the error of these keys. -/
def fault (most : Int) (ks : List Int) : Int := if most < 0 ∨ 4194304 < most then 2 else if ks.any (bad most) then 60 else 0

theorem ranks_length (ks : List Int) : (ranks ks).length = ks.length := by simp [ranks]
theorem ranks_at {ks : List Int} {i : Nat} (h : i < ks.length) : (ranks ks)[i]? = some (rk ks i : Int) := by simp [ranks, h]

theorem at_getD {ks : List Int} {i : Nat} {x : Int} (h : ks[i]? = some x) : ks.getD i 0 = x := by simp [List.getD_eq_getElem?_getD, h]
theorem getD_at {ks : List Int} {i : Nat} (h : i < ks.length) : ks[i]? = some (ks.getD i 0) := by simp [List.getD_eq_getElem?_getD, List.getElem?_eq_getElem h]

theorem take_succ_of {ks : List Int} {i : Nat} {x : Int} (h : ks[i]? = some x) : ks.take (i + 1) = ks.take i ++ [x] := by rw [List.take_add_one, h]; rfl

theorem count_take_succ {ks : List Int} {i : Nat} {x : Int} (h : ks[i]? = some x) (y : Int) : (ks.take (i + 1)).count y = (ks.take i).count y + (if x = y then 1 else 0) := by
  rw [take_succ_of h, List.count_append]
  by_cases e : x = y
  · subst e; simp
  · simp [e]

theorem less_take_succ {ks : List Int} {i : Nat} {x : Int} (h : ks[i]? = some x) (y : Int) : less (ks.take (i + 1)) y = less (ks.take i) y + (if x < y then 1 else 0) := by
  unfold less
  rw [take_succ_of h, List.countP_append]
  by_cases e : x < y <;> simp [e]

theorem less_succ (ks : List Int) (x : Int) : less ks (x + 1) = less ks x + ks.count x := by
  induction ks with
  | nil => rfl
  | cons a r ih =>
    unfold less at ih ⊢
    simp only [List.countP_cons, List.count_cons, ih]
    by_cases h1 : a < x
    · have h2 : a < x + 1 := by omega
      have h3 : ¬ a = x := by omega
      simp [h1, h2, h3]; omega
    · by_cases h3 : a = x
      · subst h3
        have h2 : a < a + 1 := by omega
        simp [h2]; omega
      · have h2 : ¬ a < x + 1 := by omega
        simp [h1, h2, h3]

theorem less_mono (ks : List Int) {x y : Int} (h : x ≤ y) : less ks x ≤ less ks y := by
  unfold less
  exact List.countP_mono_left fun z _ hz => by simp at hz ⊢; omega

theorem less_le (ks : List Int) (x : Int) : less ks x ≤ ks.length := List.countP_le_length

theorem count_take_le (ks : List Int) {i j : Nat} (h : i ≤ j) (x : Int) : (ks.take i).count x ≤ (ks.take j).count x := by
  have e : ks.take i = (ks.take j).take i := by rw [List.take_take]; congr 1; omega
  rw [e]
  exact List.Sublist.count_le _ (List.take_sublist _ _)

theorem count_take_all (ks : List Int) (i : Nat) (x : Int) : (ks.take i).count x ≤ ks.count x := List.Sublist.count_le _ (List.take_sublist _ _)

theorem count_take_lt {ks : List Int} {i j : Nat} {x : Int} (h : ks[i]? = some x) (hj : i < j) : (ks.take i).count x < (ks.take j).count x := by
  have h1 := count_take_succ h x
  have h2 := count_take_le ks (i := i + 1) (j := j) (by omega) x
  rw [if_pos rfl] at h1
  omega

theorem count_take_lt_all {ks : List Int} {i : Nat} {x : Int} (h : ks[i]? = some x) : (ks.take i).count x < ks.count x := by
  have h1 := count_take_succ h x
  have h2 := count_take_all ks (i + 1) x
  rw [if_pos rfl] at h1
  omega

theorem rk_eq {ks : List Int} {i : Nat} {x : Int} (h : ks[i]? = some x) : rk ks i = less ks x + (ks.take i).count x := by unfold rk; rw [at_getD h]

/-- Place i stands ahead of place j. -/
def Ahead (ks : List Int) (i j : Nat) : Prop := ks.getD i 0 < ks.getD j 0 ∨ (ks.getD i 0 = ks.getD j 0 ∧ i < j)

theorem rk_below {ks : List Int} {i : Nat} {x : Int} (h : ks[i]? = some x) : rk ks i < less ks (x + 1) := by
  rw [rk_eq h, less_succ]
  have := count_take_lt_all h
  omega

theorem rk_ahead {ks : List Int} {i j : Nat} (hi : i < ks.length) (hj : j < ks.length) (h : Ahead ks i j) : rk ks i < rk ks j := by
  have ei := getD_at hi
  have ej := getD_at hj
  rcases h with h | ⟨h, hlt⟩
  · have h1 := rk_below ei
    have h2 := less_mono ks (x := ks.getD i 0 + 1) (y := ks.getD j 0) (by omega)
    rw [rk_eq ej]
    omega
  · rw [rk_eq ei, rk_eq ej, ← h]
    have := count_take_lt ei hlt
    omega

theorem rk_lt {ks : List Int} {i : Nat} (hi : i < ks.length) : rk ks i < ks.length := by
  have h1 := rk_below (getD_at hi)
  have h2 := less_le ks (ks.getD i 0 + 1)
  omega

theorem ahead_or (ks : List Int) {i j : Nat} (h : i ≠ j) : Ahead ks i j ∨ Ahead ks j i := by
  unfold Ahead
  omega

theorem rk_inj {ks : List Int} {i j : Nat} (hi : i < ks.length) (hj : j < ks.length) (h : rk ks i = rk ks j) : i = j := by
  rcases Nat.decEq i j with e | e
  · rcases ahead_or ks e with a | a
    · have := rk_ahead hi hj a; omega
    · have := rk_ahead hj hi a; omega
  · exact e

theorem pig : ∀ (n : Nat) (f : Nat → Nat), (∀ i, i < n → f i < n) → (∀ i j, i < n → j < n → f i = f j → i = j) → ∀ k, k < n → ∃ i, i < n ∧ f i = k := by
  intro n
  induction n with
  | zero => intro f _ _ k hk; omega
  | succ n ih =>
    intro f hf hinj k hk
    have hg := ih (fun i : Nat => if f i = n then f n else f i) (fun i hi => by
      by_cases e : f i = n
      · rw [if_pos e]
        have h1 := hf n (by omega)
        have h2 : f n ≠ n := fun e2 => by
          have := hinj i n (by omega) (by omega) (e.trans e2.symm)
          omega
        omega
      · rw [if_neg e]
        have := hf i (by omega)
        omega) (fun i j hi hj he => by
      by_cases e1 : f i = n
      · by_cases e2 : f j = n
        · exact hinj i j (by omega) (by omega) (e1.trans e2.symm)
        · rw [if_pos e1, if_neg e2] at he
          have := hinj n j (by omega) (by omega) he
          omega
      · by_cases e2 : f j = n
        · rw [if_neg e1, if_pos e2] at he
          have := hinj i n (by omega) (by omega) he
          omega
        · rw [if_neg e1, if_neg e2] at he
          exact hinj i j (by omega) (by omega) he)
    have hn := hf n (by omega)
    by_cases e : f n = k
    · exact ⟨n, by omega, e⟩
    · by_cases e2 : k = n
      · obtain ⟨i, hi, h⟩ := hg (f n) (by omega)
        by_cases e3 : f i = n
        · exact ⟨i, by omega, by omega⟩
        · rw [if_neg e3] at h
          have := hinj i n (by omega) (by omega) h
          omega
      · obtain ⟨i, hi, h⟩ := hg k (by omega)
        by_cases e3 : f i = n
        · rw [if_pos e3] at h
          exact absurd h e
        · rw [if_neg e3] at h
          exact ⟨i, by omega, h⟩

theorem rk_onto (ks : List Int) {k : Nat} (hk : k < ks.length) : ∃ i, i < ks.length ∧ rk ks i = k :=
  pig ks.length (rk ks) (fun _ hi => rk_lt hi) (fun _ _ hi hj h => rk_inj hi hj h) k hk

/-- S is what is sorted: each item at its rank. -/
structure Sorted {α : Type} (ks : List Int) (xs S : List α) : Prop where
  len : S.length = ks.length
  put : ∀ i, i < ks.length → S[rk ks i]? = xs[i]?

theorem Sorted.unique {α : Type} {ks : List Int} {xs S T : List α} (h : Sorted ks xs S) (k : Sorted ks xs T) : S = T := by
  refine List.ext_getElem? fun j => ?_
  by_cases hj : j < ks.length
  · obtain ⟨i, hi, rfl⟩ := rk_onto ks hj
    rw [h.put i hi, k.put i hi]
  · rw [List.getElem?_eq_none (by rw [h.len]; omega), List.getElem?_eq_none (by rw [k.len]; omega)]

/-- The first n items have been put at their ranks. -/
structure Laid {α : Type} (ks : List Int) (xs S : List α) (n : Nat) : Prop where
  len : S.length = ks.length
  put : ∀ i, i < n → S[rk ks i]? = xs[i]?

theorem Laid.step {α : Type} {ks : List Int} {xs S : List α} {n : Nat} (h : Laid ks xs S n) (hn : n < ks.length) {x : α} (hx : xs[n]? = some x) : Laid ks xs (S.set (rk ks n) x) (n + 1) := by
  refine ⟨by rw [List.length_set]; exact h.len, fun i hi => ?_⟩
  have hr := rk_lt hn
  rw [List.getElem?_set]
  by_cases e : i = n
  · subst e
    rw [if_pos rfl, if_pos (by rw [h.len]; exact hr), hx]
  · rw [if_neg (fun e2 => e (rk_inj (by omega) hn e2.symm)), h.put i (by omega)]

/-- The places among the first n that have key k, rising. -/
def grpTo (ks : List Int) (n : Nat) (k : Int) : List Int := ((List.range n).filter fun i => ks.getD i 0 == k).map fun i : Nat => (i : Int)
def grp (ks : List Int) (k : Int) : List Int := grpTo ks ks.length k

theorem grpTo_succ (ks : List Int) (n : Nat) (k : Int) : grpTo ks (n + 1) k = if ks.getD n 0 = k then grpTo ks n k ++ [(n : Int)] else grpTo ks n k := by
  unfold grpTo
  rw [List.range_succ, List.filter_append]
  by_cases e : ks.getD n 0 = k
  · rw [if_pos e]
    have : (ks.getD n 0 == k) = true := beq_iff_eq.2 e
    simp only [List.filter_cons, List.filter_nil]
    rw [this]
    simp
  · rw [if_neg e]
    have : (ks.getD n 0 == k) = false := beq_eq_false_iff_ne.2 e
    simp only [List.filter_cons, List.filter_nil]
    rw [this]
    simp

theorem grpTo_length {ks : List Int} {n : Nat} (hn : n ≤ ks.length) (k : Int) : (grpTo ks n k).length = (ks.take n).count k := by
  induction n with
  | zero => simp [grpTo]
  | succ n ih =>
    have h := getD_at (ks := ks) (i := n) (by omega)
    rw [grpTo_succ, count_take_succ h]
    have := ih (by omega)
    by_cases e : ks.getD n 0 = k
    · rw [if_pos e, if_pos e, List.length_append, this]; rfl
    · rw [if_neg e, if_neg e, this]; rfl

theorem grp_length (ks : List Int) (k : Int) : (grp ks k).length = ks.count k := by
  unfold grp
  rw [grpTo_length (Nat.le_refl _), List.take_length]

theorem grpTo_pre {ks : List Int} {n m : Nat} (h : n ≤ m) (k : Int) : ∃ t, grpTo ks m k = grpTo ks n k ++ t := by
  induction m with
  | zero => exact ⟨[], by rw [show n = 0 by omega]; simp⟩
  | succ m ih =>
    by_cases e : n = m + 1
    · subst e; exact ⟨[], by simp⟩
    · obtain ⟨t, ht⟩ := ih (by omega)
      rw [grpTo_succ]
      by_cases e2 : ks.getD m 0 = k
      · rw [if_pos e2, ht]; exact ⟨t ++ [(m : Int)], by simp⟩
      · rw [if_neg e2]; exact ⟨t, ht⟩

theorem grp_at {ks : List Int} {i : Nat} (hi : i < ks.length) : (grp ks (ks.getD i 0))[(ks.take i).count (ks.getD i 0)]? = some (i : Int) := by
  obtain ⟨t, ht⟩ := grpTo_pre (ks := ks) (n := i + 1) (m := ks.length) hi (ks.getD i 0)
  unfold grp
  rw [ht, grpTo_succ, if_pos rfl, ← grpTo_length (Nat.le_of_lt hi) (ks.getD i 0)]
  simp

/-- All keys lie between 0 and m. -/
def In (m : Int) (ks : List Int) : Prop := ∀ z ∈ ks, 0 ≤ z ∧ z ≤ m

/-- The groups of the keys below K, as lists. -/
def groups (ks : List Int) (K : Nat) : List (List Int) := (List.range K).map fun k : Nat => grp ks (k : Int)
/-- The same, of the first n places. -/
def groupsTo (ks : List Int) (n K : Nat) : List (List Int) := (List.range K).map fun k : Nat => grpTo ks n (k : Int)
theorem groups_to (ks : List Int) (K : Nat) : groupsTo ks ks.length K = groups ks K := rfl
theorem groupsTo_length (ks : List Int) (n K : Nat) : (groupsTo ks n K).length = K := by simp [groupsTo]
theorem groups_length (ks : List Int) (K : Nat) : (groups ks K).length = K := by simp [groups]
theorem groupsTo_at (ks : List Int) (n : Nat) {K k : Nat} (h : k < K) : (groupsTo ks n K)[k]? = some (grpTo ks n (k : Int)) := by simp [groupsTo, h]
theorem groups_at (ks : List Int) {K k : Nat} (h : k < K) : (groups ks K)[k]? = some (grp ks (k : Int)) := by simp [groups, h]
theorem groupsTo_zero (ks : List Int) (K : Nat) : groupsTo ks 0 K = List.replicate K [] := by
  unfold groupsTo
  refine List.ext_getElem? fun j => ?_
  by_cases hj : j < K
  · simp [hj, grpTo]
  · simp [hj]
theorem groupsTo_succ {ks : List Int} {n K k : Nat} (h : ks[n]? = some (k : Int)) (hk : k < K) : groupsTo ks (n + 1) K = (groupsTo ks n K).set k (grpTo ks n (k : Int) ++ [(n : Int)]) := by
  have hd := at_getD h
  refine List.ext_getElem? fun j => ?_
  rw [List.getElem?_set, groupsTo_length]
  by_cases hj : j < K
  · rw [groupsTo_at ks (n + 1) hj, grpTo_succ, hd]
    by_cases e : k = j
    · subst e
      rw [if_pos rfl, if_pos rfl, if_pos hj]
    · rw [if_neg (by omega), if_neg e, groupsTo_at ks n hj]
  · by_cases e : k = j
    · omega
    · rw [if_neg e, List.getElem?_eq_none (by rw [groupsTo_length]; omega), List.getElem?_eq_none (by rw [groupsTo_length]; omega)]

def flat (ks : List Int) (K : Nat) : List Int := (groups ks K).flatten

theorem flat_succ (ks : List Int) (K : Nat) : flat ks (K + 1) = flat ks K ++ grp ks (K : Int) := by
  unfold flat groups
  rw [List.range_succ, List.map_append, List.flatten_append]
  simp

theorem less_zero {m : Int} {ks : List Int} (h : In m ks) : less ks 0 = 0 := by
  unfold less
  rw [List.countP_eq_zero]
  intro z hz
  have := h z hz
  simp
  omega

theorem flat_length {m : Int} {ks : List Int} (h : In m ks) (K : Nat) : (flat ks K).length = less ks (K : Int) := by
  induction K with
  | zero => rw [show ((0 : Nat) : Int) = 0 by rfl, less_zero h]; rfl
  | succ K ih =>
    rw [flat_succ, List.length_append, ih, grp_length, show ((K + 1 : Nat) : Int) = (K : Int) + 1 by omega, less_succ]

theorem flat_pre (ks : List Int) {K L : Nat} (h : K ≤ L) : ∃ t, flat ks L = flat ks K ++ t := by
  induction L with
  | zero => exact ⟨[], by rw [show K = 0 by omega]; simp⟩
  | succ L ih =>
    by_cases e : K = L + 1
    · subst e; exact ⟨[], by simp⟩
    · obtain ⟨t, ht⟩ := ih (by omega)
      rw [flat_succ, ht]
      exact ⟨t ++ grp ks (L : Int), by simp⟩

theorem less_all {m : Int} {ks : List Int} (h : In m ks) : less ks (m + 1) = ks.length := by
  unfold less
  rw [List.countP_eq_length]
  intro z hz
  have := h z hz
  simp
  omega

theorem flat_at {m : Int} {ks : List Int} (h : In m ks) {K i : Nat} (hi : i < ks.length) (hk : ks.getD i 0 < (K : Int)) : (flat ks K)[rk ks i]? = some (i : Int) := by
  have hx := getD_at hi
  have h0 := h _ (List.mem_of_getElem? hx)
  obtain ⟨k, hkk⟩ : ∃ k : Nat, ks.getD i 0 = (k : Int) := ⟨(ks.getD i 0).toNat, by omega⟩
  obtain ⟨t, ht⟩ := flat_pre ks (K := k + 1) (L := K) (by omega)
  have hr := rk_eq hx
  have hg := grp_at hi
  rw [hkk] at hr hg
  have hfl := flat_length h k
  have hgl := (List.getElem?_eq_some_iff.1 hg).1
  rw [ht, List.getElem?_append_left (by rw [flat_succ, List.length_append, hfl]; omega), flat_succ, List.getElem?_append_right (by omega), hfl, hr, Nat.add_sub_cancel_left]
  exact hg

/-- The places 0 .. n - 1. -/
def places (n : Nat) : List Int := (List.range n).map fun i : Nat => (i : Int)
theorem places_length (n : Nat) : (places n).length = n := by simp [places]
theorem places_at {n i : Nat} (h : i < n) : (places n)[i]? = some (i : Int) := by simp [places, h]
theorem places_succ (n : Nat) : places (n + 1) = places n ++ [(n : Int)] := by simp [places, List.range_succ]

theorem flat_sorted {m : Int} {ks : List Int} (h : In m ks) {K : Nat} (hK : (K : Int) = m + 1) : Sorted ks (places ks.length) (flat ks K) := by
  refine ⟨by rw [flat_length h, hK, less_all h], fun i hi => ?_⟩
  have h0 := h _ (List.mem_of_getElem? (getD_at hi))
  rw [flat_at h hi (by omega), places_at hi]

/-- Of a list that does not fall the ranks are the places. -/
theorem rk_rising {ks : List Int} (h : ∀ i j, i < j → j < ks.length → ks.getD i 0 ≤ ks.getD j 0) {j : Nat} (hj : j < ks.length) : rk ks j = j := by
  have hx := getD_at hj
  generalize ks.getD j 0 = y at hx
  have hle : ∀ i, i < j → ks.getD i 0 ≤ y := fun i hi => by rw [← at_getD hx]; exact h i j hi hj
  have hge : ∀ i, j ≤ i → i < ks.length → y ≤ ks.getD i 0 := fun i hi hl => by
    by_cases e : i = j
    · subst e; rw [at_getD hx]; exact Int.le_refl _
    · have := h j i (by omega) hl
      rw [at_getD hx] at this
      exact this
  rw [rk_eq hx]
  have a : ∀ n, n ≤ j → less (ks.take n) y + (ks.take n).count y = n := fun n => by
    induction n with
    | zero => intro _; simp [less]
    | succ n ih =>
      intro hn
      have hz := getD_at (ks := ks) (i := n) (by omega)
      have := ih (by omega)
      have hl := hle n (by omega)
      rw [less_take_succ hz, count_take_succ hz]
      by_cases e : ks.getD n 0 = y
      · rw [if_pos e, if_neg (by omega)]; omega
      · rw [if_neg e, if_pos (by omega)]; omega
  have b : ∀ n, j ≤ n → n ≤ ks.length → less (ks.take n) y = less (ks.take j) y := fun n => by
    induction n with
    | zero => intro h1 _; rw [show j = 0 by omega]
    | succ n ih =>
      intro h1 h2
      by_cases e : j = n + 1
      · rw [e]
      · have hz := getD_at (ks := ks) (i := n) (by omega)
        have hg := hge n (by omega) (by omega)
        rw [less_take_succ hz, if_neg (by omega), ih (by omega) (by omega)]
        rfl
  have h1 := a j (Nat.le_refl _)
  have h2 := b ks.length (by omega) (Nat.le_refl _)
  rw [List.take_length] at h2
  omega

/-- The keys of what is sorted. -/
def keysOf (ks S : List Int) : List Int := S.map fun z => ks.getD z.toNat 0

theorem sorted_place {ks S : List Int} (h : Sorted ks (places ks.length) S) {k : Nat} (hk : k < ks.length) : ∃ i, i < ks.length ∧ S[k]? = some (i : Int) ∧ rk ks i = k := by
  obtain ⟨i, hi, rfl⟩ := rk_onto ks hk
  exact ⟨i, hi, by rw [h.put i hi, places_at hi], rfl⟩

theorem sorted_ahead {ks S : List Int} (h : Sorted ks (places ks.length) S) {k k' i i' : Nat} (hlt : k < k') (hk : k' < ks.length) (h1 : S[k]? = some (i : Int)) (h2 : S[k']? = some (i' : Int)) : Ahead ks i i' := by
  obtain ⟨j, hj, e1, r1⟩ := sorted_place h (k := k) (by omega)
  obtain ⟨j', hj', e2, r2⟩ := sorted_place h hk
  rw [h1] at e1
  rw [h2] at e2
  have a1 := Option.some.inj e1
  have a2 := Option.some.inj e2
  obtain rfl : i = j := by omega
  obtain rfl : i' = j' := by omega
  rcases ahead_or ks (i := i) (j := i') (fun e => by subst e; omega) with a | a
  · exact a
  · have := rk_ahead hj' hj a
    omega

theorem sorted_again {ks S T : List Int} (h : Sorted ks (places ks.length) S) (k : Sorted (keysOf ks S) S T) : T = S := by
  have hl : (keysOf ks S).length = ks.length := by simp [keysOf, h.len]
  have hrise : ∀ i j, i < j → j < (keysOf ks S).length → (keysOf ks S).getD i 0 ≤ (keysOf ks S).getD j 0 := fun i j hij hj => by
    obtain ⟨a, ha, e1, -⟩ := sorted_place h (k := i) (by omega)
    obtain ⟨b, hb, e2, -⟩ := sorted_place h (k := j) (by omega)
    have hah := sorted_ahead h hij (by omega) e1 e2
    have q1 : (keysOf ks S).getD i 0 = ks.getD a 0 := at_getD (by unfold keysOf; rw [List.getElem?_map, e1]; simp)
    have q2 : (keysOf ks S).getD j 0 = ks.getD b 0 := at_getD (by unfold keysOf; rw [List.getElem?_map, e2]; simp)
    rw [q1, q2]
    unfold Ahead at hah
    omega
  refine List.ext_getElem? fun j => ?_
  by_cases hj : j < (keysOf ks S).length
  · have := k.put j hj
    rw [rk_rising hrise hj] at this
    exact this
  · rw [List.getElem?_eq_none (by rw [k.len]; omega), List.getElem?_eq_none (by rw [h.len, ← hl]; omega)]

theorem fault_two {most : Int} {ks : List Int} (h : most < 0 ∨ 4194304 < most) : fault most ks = 2 := if_pos h
theorem fault_key {most : Int} {ks : List Int} (h : ¬ (most < 0 ∨ 4194304 < most)) (h2 : ks.any (bad most) = true) : fault most ks = 60 := by unfold fault; rw [if_neg h, if_pos h2]
theorem fault_none {most : Int} {ks : List Int} (h : ¬ (most < 0 ∨ 4194304 < most)) (h2 : ks.any (bad most) = false) : fault most ks = 0 := by
  unfold fault
  rw [if_neg h, h2]
  rfl
theorem fault_cases (most : Int) (ks : List Int) : ((most < 0 ∨ 4194304 < most) ∧ fault most ks = 2) ∨ (¬ (most < 0 ∨ 4194304 < most) ∧ ks.any (bad most) = true ∧ fault most ks = 60) ∨ (¬ (most < 0 ∨ 4194304 < most) ∧ ks.any (bad most) = false ∧ fault most ks = 0) := by
  by_cases h : most < 0 ∨ 4194304 < most
  · exact .inl ⟨h, fault_two h⟩
  · cases h2 : ks.any (bad most)
    · exact .inr (.inr ⟨h, rfl, fault_none h h2⟩)
    · exact .inr (.inl ⟨h, rfl, fault_key h h2⟩)
theorem any_in {most : Int} {ks : List Int} (h : ks.any (bad most) = false) : In most ks := fun z hz => by
  have := List.any_eq_false.1 h z hz
  unfold bad at this
  simp at this
  omega
theorem any_take_succ {most : Int} {ks : List Int} {i : Nat} {x : Int} (h : ks[i]? = some x) (hp : (ks.take i).any (bad most) = false) (hx : bad most x = false) : (ks.take (i + 1)).any (bad most) = false := by
  rw [take_succ_of h, List.any_append, hp]
  simp [hx]
theorem any_of {most : Int} {ks : List Int} {i : Nat} {x : Int} (h : ks[i]? = some x) (hx : bad most x = true) : ks.any (bad most) = true := List.any_eq_true.2 ⟨x, List.mem_of_getElem? h, hx⟩
theorem bad_yes {most x : Int} (h : x < 0 ∨ most < x) : bad most x = true := by unfold bad; simp; omega
theorem bad_no {most x : Int} (h : ¬ (x < 0 ∨ most < x)) : bad most x = false := by unfold bad; simp; omega

end Bu
end Go.Proofs.YtalfpbalekbinaaGreat
