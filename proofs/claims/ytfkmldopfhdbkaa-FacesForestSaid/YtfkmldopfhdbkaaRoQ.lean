/-
  Pure: turns of lists without repetition, their canons, their mirrors.
-/
import Derived.Test.YtfkmldopfhdbkaaMg04
import Derived.Test.YtfkmldopfhdbkaaRoTs
namespace Go.Proofs.Ytfkmldopfhdbkaa
namespace Ro

theorem turn_perm (l : List Int) (a : Nat) : (turn l a).Perm l := by
  unfold turn
  exact List.perm_append_comm.trans (by rw [List.take_append_drop])
theorem canon1_perm (l : List Int) : (canon1 l).Perm l := turn_perm _ _

theorem turn_turn {l : List Int} {k b : Nat} (hk : k < l.length) (hb : b < l.length) : turn (turn l k) b = turn l ((k + b) % l.length) := by
  have hc : (k + b) % l.length < l.length := Nat.mod_lt _ (by omega)
  refine List.ext_getElem? fun i => ?_
  by_cases hi : i < l.length
  · rw [turn_at (by rw [turn_len]; exact hb) (by rw [turn_len]; exact hi), turn_len, turn_at hk (Nat.mod_lt _ (by omega)), turn_at hc hi]
    congr 1
    rw [Nat.add_mod_mod, Nat.mod_add_mod, Nat.add_assoc]
  · rw [List.getElem?_eq_none (by rw [turn_len, turn_len]; omega), List.getElem?_eq_none (by rw [turn_len]; omega)]

theorem Tn.trans {a b c : List Int} (h : Tn a b) (h' : Tn b c) : Tn a c := by
  rcases h with ⟨rfl, rfl⟩ | ⟨k, hk, rfl⟩
  · exact h'
  · rcases h' with ⟨h1, rfl⟩ | ⟨j, hj, rfl⟩
    · have := turn_len a k
      rw [h1] at this
      simp at this
      omega
    · rw [turn_len] at hj
      rw [turn_turn hk hj]
      exact .inr ⟨_, Nat.mod_lt _ (by omega), rfl⟩
theorem Tn.perm {a b : List Int} (h : Tn a b) : b.Perm a := by
  rcases h with ⟨rfl, rfl⟩ | ⟨k, hk, rfl⟩
  · exact .refl _
  · exact turn_perm _ _
theorem tn_canon (l : List Int) : Tn l (canon1 l) := by
  cases l with
  | nil => exact .inl ⟨rfl, rfl⟩
  | cons x t => exact .inr ⟨_, at_lt _ _ (by simp), rfl⟩

/-- The place of a least element. -/
theorem at_least (l : List Int) : ∀ k i, i < k → l.getD (at' l k) 0 ≤ l.getD i 0
  | 0, _, h => by omega
  | k + 1, i, h => by
    rw [at']
    split
    · rename_i hlt
      by_cases e : i = k
      · rw [e]; exact Int.le_refl _
      · have := at_least l k i (by omega)
        omega
    · rename_i hge
      by_cases e : i = k
      · rw [e]; omega
      · exact at_least l k i (by omega)
theorem canon1_zero {l : List Int} (h : 0 < l.length) : (canon1 l)[0]? = some (l.getD (at' l l.length) 0) := by
  have ha := at_lt l l.length h
  unfold canon1
  rw [turn_at ha h, Nat.add_zero, Nat.mod_eq_of_lt ha]
  exact at_getD ha
/-- Canon begins with the least. -/
theorem canon1_least {l : List Int} {x y : Int} (hx : (canon1 l)[0]? = some x) (hy : y ∈ l) : x ≤ y := by
  obtain ⟨i, hi⟩ := List.mem_iff_getElem?.1 hy
  have hil := lt_at hi
  rw [canon1_zero (by omega)] at hx
  have := at_least l l.length i hil
  rw [getD_of hi] at this
  have e := Option.some.inj hx
  omega

/-- Turns of one list without repetition that begin with the same. -/
theorem turn_one {l : List Int} (hN : l.Nodup) {a b : Nat} (ha : a < l.length) (hb : b < l.length) (h : (turn l a)[0]? = (turn l b)[0]?) : turn l a = turn l b := by
  rw [turn_at ha (by omega), turn_at hb (by omega), Nat.add_zero, Nat.add_zero, Nat.mod_eq_of_lt ha, Nat.mod_eq_of_lt hb] at h
  have a1 := at_getD ha
  have a2 : l[b]? = some (l.getD a 0) := h.symm.trans a1
  have := nodup_at hN a1 a2
  subst this
  rfl

theorem canon_of_tn {l m : List Int} (hN : l.Nodup) (h : Tn l m) : canon1 l = canon1 m := by
  have h1 := tn_canon l
  have h2 := h.trans (tn_canon m)
  rcases h1 with ⟨e1, e2⟩ | ⟨a, ha, ea⟩
  · subst e1
    have := h.len
    have : m = [] := List.length_eq_zero_iff.1 (by simpa using this.symm)
    rw [this]
  rcases h2 with ⟨e1, e2⟩ | ⟨b, hb, eb⟩
  · rw [e1] at ha
    simp at ha
  have hl : 0 < l.length := by omega
  have hm : 0 < m.length := by rw [← h.len]; exact hl
  have z1 := canon1_zero hl
  have z2 := canon1_zero hm
  have m1 : l.getD (at' l l.length) 0 ∈ m := h.perm.mem_iff.2 ((canon1_perm l).mem_iff.1 (List.mem_of_getElem? z1))
  have m2 : m.getD (at' m m.length) 0 ∈ l := h.perm.mem_iff.1 ((canon1_perm m).mem_iff.1 (List.mem_of_getElem? z2))
  have c1 := canon1_least z1 m2
  have c2 := canon1_least z2 m1
  have hz : (canon1 l)[0]? = (canon1 m)[0]? := by
    rw [z1, z2]
    congr 1
    omega
  rw [← ea, ← eb] at hz ⊢
  exact turn_one hN ha hb hz

theorem canon_twice {l : List Int} (hN : l.Nodup) : canon1 (canon1 l) = canon1 l := (canon_of_tn hN (tn_canon l)).symm

theorem turn_reverse {l : List Int} {a : Nat} (ha : a ≤ l.length) : (turn l a).reverse = turn l.reverse (l.length - a) := by
  unfold turn
  rw [List.reverse_append, List.drop_reverse, List.take_reverse, Nat.sub_sub_self ha]
theorem tn_reverse {l m : List Int} (h : Tn l m) : Tn l.reverse m.reverse := by
  rcases h with ⟨rfl, rfl⟩ | ⟨k, hk, rfl⟩
  · exact .inl ⟨rfl, rfl⟩
  · rw [turn_reverse (Nat.le_of_lt hk)]
    by_cases h0 : k = 0
    · subst h0
      have e : turn l.reverse (l.length - 0) = l.reverse := by
        unfold turn
        rw [List.drop_of_length_le (by simp), List.take_of_length_le (by simp), List.nil_append]
      rw [e]
      exact Tn.refl _
    · exact .inr ⟨_, by rw [List.length_reverse]; omega, rfl⟩
theorem mirror_twice {l : List Int} (hN : l.Nodup) : canon1 (canon1 l.reverse).reverse = canon1 l := by
  have h := tn_reverse (tn_canon l.reverse)
  rw [List.reverse_reverse] at h
  exact (canon_of_tn hN h).symm

/-- x is followed by y. -/
def Suc (l : List Int) (x y : Int) : Prop := ∃ i, l[i]? = some x ∧ l[(i + 1) % l.length]? = some y
theorem suc_turn {l : List Int} {a : Nat} (ha : a < l.length) {x y : Int} (h : Suc l x y) : Suc (turn l a) x y := by
  obtain ⟨i, hx, hy⟩ := h
  have hi := lt_at hx
  have hm : (i + (l.length - a)) % l.length < l.length := Nat.mod_lt _ (by omega)
  refine ⟨(i + (l.length - a)) % l.length, ?_, ?_⟩
  · rw [turn_at ha hm, Nat.add_mod_mod]
    have : a + (i + (l.length - a)) = i + l.length := by omega
    rw [this, Nat.add_mod_right, Nat.mod_eq_of_lt hi]
    exact hx
  · rw [turn_len, turn_at ha (Nat.mod_lt _ (by omega)), Nat.mod_add_mod, Nat.add_mod_mod]
    have : a + (i + (l.length - a) + 1) = (i + 1) + l.length := by omega
    rw [this, Nat.add_mod_right]
    exact hy
theorem suc_tn {l m : List Int} (h : Tn l m) {x y : Int} (hs : Suc l x y) : Suc m x y := by
  rcases h with ⟨rfl, rfl⟩ | ⟨k, hk, rfl⟩
  · exact hs
  · exact suc_turn hk hs
theorem suc_reverse {l : List Int} {x y : Int} (h : Suc l x y) : Suc l.reverse y x := by
  obtain ⟨i, hx, hy⟩ := h
  have hi := lt_at hx
  have hj := lt_at hy
  rcases Nat.lt_or_ge (i + 1) l.length with c | c
  · rw [Nat.mod_eq_of_lt c] at hy
    refine ⟨l.length - 1 - (i + 1), ?_, ?_⟩
    · rw [List.getElem?_reverse (by omega)]
      have : l.length - 1 - (l.length - 1 - (i + 1)) = i + 1 := by omega
      rw [this]
      exact hy
    · rw [List.length_reverse, Nat.mod_eq_of_lt (by omega), List.getElem?_reverse (by omega)]
      have : l.length - 1 - (l.length - 1 - (i + 1) + 1) = i := by omega
      rw [this]
      exact hx
  · have e : i + 1 = l.length := by omega
    rw [e, Nat.mod_self] at hy
    refine ⟨l.length - 1, ?_, ?_⟩
    · rw [List.getElem?_reverse (by omega)]
      have : l.length - 1 - (l.length - 1) = 0 := by omega
      rw [this]
      exact hy
    · have : l.length - 1 + 1 = l.length := by omega
      rw [List.length_reverse, this, Nat.mod_self, List.getElem?_reverse (by omega)]
      have : l.length - 1 - 0 = i := by omega
      rw [this]
      exact hx

section
variable {n : Int} {es : List (Int × Int)} {ls : List (List Int)}
theorem IsRot.of_perm {v : Nat} {l m : List Int} (h : IsRot es v l) (hp : m.Perm l) : IsRot es v m :=
  ⟨fun x hx => h.lv x (hp.mem_iff.1 hx), hp.nodup_iff.2 h.once, by rw [hp.length_eq]; exact h.all⟩
theorem Rot.map (h : Rot n es ls) {g : List Int → List Int} (hg : ∀ l, (g l).Perm l) : Rot n es (ls.map g) := by
  refine ⟨h.val, by rw [List.length_map]; exact h.len, fun v l hl => ?_⟩
  rw [List.getElem?_map] at hl
  obtain ⟨m, hm, rfl⟩ := Option.map_eq_some_iff.1 hl
  exact (h.each v m hm).of_perm (hg m)
theorem Rot.canon (h : Rot n es ls) : Rot n es (ls.map canon1) := h.map canon1_perm
theorem Rot.mirror (h : Rot n es ls) : Rot n es (ls.map fun l => canon1 l.reverse) := h.map fun l => (canon1_perm _).trans (List.reverse_perm l)
theorem Rot.suc (h : Rot n es ls) {v : Nat} {l : List Int} {x y : Int} (hl : ls[v]? = some l) (hs : Suc l x y) : (nextL es ls)[x.toNat]? = some y := by
  obtain ⟨i, hx, hy⟩ := hs
  rw [h.next hl hx, getD_of hy]

/-- Next of the mirror leads back. -/
theorem Rot.back (h : Rot n es ls) {j : Nat} (hj : j < 2 * es.length) (hf : (Cs.fr es j : Int) < n) : ∃ t : Nat, (nextL es ls)[j]? = some (t : Int) ∧ t < 2 * es.length ∧ (nextL es (ls.map fun l => canon1 l.reverse))[t]? = some (j : Int) := by
  obtain ⟨l, i, hl, hi, -⟩ := h.place hj hf
  have h1 := h.next hl hi
  have hil := lt_at hi
  have a2 := at_getD (l := l) (i := (i + 1) % l.length) (Nat.mod_lt _ (by omega))
  obtain ⟨t, ht, htm, htf⟩ := h.half hl a2
  rw [ht] at h1 a2
  refine ⟨t, by simpa using h1, htm, ?_⟩
  have hs : Suc (canon1 l.reverse) (t : Int) (j : Int) := suc_tn (tn_canon _) (suc_reverse ⟨i, hi, a2⟩)
  have := h.mirror.suc (v := Cs.fr es j) (by rw [List.getElem?_map, hl]; rfl) hs
  simpa using this
theorem Rot.nodup (h : Rot n es ls) : ∀ l ∈ ls, l.Nodup := fun l hl => by
  obtain ⟨v, hv⟩ := List.mem_iff_getElem?.1 hl
  exact (h.each v l hv).once
theorem map_canon_twice (h : ∀ l ∈ ls, l.Nodup) : (ls.map canon1).map canon1 = ls.map canon1 := by
  rw [List.map_map]
  exact List.map_congr_left fun l hl => canon_twice (h l hl)
theorem map_mirror_twice (h : ∀ l ∈ ls, l.Nodup) : (ls.map fun l => canon1 l.reverse).map (fun l => canon1 l.reverse) = ls.map canon1 := by
  rw [List.map_map]
  exact List.map_congr_left fun l hl => mirror_twice (h l hl)
theorem tns_canon (ls : List (List Int)) : Tns (ls.map canon1) ls := by
  refine ⟨by simp, fun v x y hx hy => ?_⟩
  rw [List.getElem?_map, hy] at hx
  cases hx
  exact (tn_canon y).symm
theorem tns_iff {ms : List (List Int)} (h : ∀ l ∈ ls, l.Nodup) : Tns ls ms ↔ ls.map canon1 = ms.map canon1 := by
  constructor
  · rintro ⟨hl, ht⟩
    refine List.ext_getElem? fun v => ?_
    rw [List.getElem?_map, List.getElem?_map]
    by_cases hv : v < ls.length
    · have h1 : ls[v]? = some ls[v] := by simp [hv]
      have hv2 : v < ms.length := by omega
      have h2 : ms[v]? = some ms[v] := by simp [hv2]
      rw [h1, h2]
      show some _ = some _
      rw [canon_of_tn (h _ (List.getElem_mem hv)) (ht v _ _ h1 h2)]
    · rw [List.getElem?_eq_none (by omega), List.getElem?_eq_none (by omega)]
  · intro e
    refine ⟨by simpa using congrArg List.length e, fun v x y hx hy => ?_⟩
    have := congrArg (·[v]?) e
    simp only [List.getElem?_map, hx, hy] at this
    have e2 : canon1 x = canon1 y := Option.some.inj this
    have := tn_canon x
    rw [e2] at this
    exact this.trans (tn_canon y).symm
end
end Ro
end Go.Proofs.Ytfkmldopfhdbkaa
