import Derived.Test.YtalfpbalekbinaaGreatMg05
/-
  Depth-first forests, pure: who is above whom, by places; heights; what a valid forest is.
-/
namespace Go.Proofs.YtalfpbalekbinaaGreat
namespace Df

section
variable {n : Nat} {es : List (Int × Int)} {s : St}

/-- Every vertex stands somewhere. -/
theorem Once.onto (h : Once n s n) {v : Nat} (hv : v < n) : ∃ a, a < n ∧ at_ s.ord a = (v : Int) := by
  obtain ⟨a, ha, e⟩ := Bu.pig n (fun a => (at_ s.ord a).toNat) (fun i hi => by have := (h i hi).1; omega) (fun i j hi hj e => by
    by_cases hij : i = j
    · exact hij
    · have h1 := (h i hi).1
      have h2 := (h j hj).1
      exact absurd (by omega : at_ s.ord i = at_ s.ord j) (h.ne hi hj hij)) v hv
  have := (h a ha).1
  exact ⟨a, ha, by omega⟩

/-- By vertex the place at which it stands. -/
def IsPlace (n : Nat) (s : St) (P : List Int) : Prop := P.length = n ∧ ∀ a, a < n → at_ P (at_ s.ord a).toNat = (a : Int)

theorem above_iff (ho : Once n s n) {W B P : List Int} (hs : side n es s n = some (W, B)) (hP : IsPlace n s P) {u v : Nat} (hu : u < n) (hv : v < n) :
    (at_ P u ≤ at_ P v ∧ at_ P v < at_ (ends n W B) u) ↔ Anc es s u v := by
  obtain ⟨a, ha, ea⟩ := ho.onto hu
  obtain ⟨b, hb, eb⟩ := ho.onto hv
  have pa := hP.2 a ha
  have pb := hP.2 b hb
  have hend := side_end (es := es) ho hs ha hb
  obtain ⟨_, ⟨Y, hY⟩, hw, _, _⟩ := (side_inv ho n (Nat.le_refl _) W B hs).hist b hb
  rw [ea] at pa hend
  rw [eb] at pb hY
  rw [hY] at hw hend
  rw [Int.toNat_natCast] at pa pb hend
  rw [pa, pb, Anc.iff hw, hend]
  omega

/-- Every vertex has its way. -/
theorem way_of (ho : Once n s n) {W B : List Int} (hs : side n es s n = some (W, B)) {v : Nat} (hv : v < n) : ∃ Y, IsWay es s ((v : Int) :: Y) ∧ Y.length < n ∧ ∀ x ∈ Y, ∃ u : Nat, u < n ∧ x = (u : Int) := by
  obtain ⟨b, hb, eb⟩ := ho.onto hv
  obtain ⟨hsub, ⟨Y, hY⟩, hw, hl, _⟩ := (side_inv ho n (Nat.le_refl _) W B hs).hist b hb
  rw [eb] at hY
  rw [hY] at hw hl hsub
  refine ⟨Y, hw, by simp at hl; omega, fun x hx => ?_⟩
  obtain ⟨a, ha, rfl⟩ := hsub x (List.mem_cons_of_mem _ hx)
  have := (ho a (by omega)).1
  exact ⟨(at_ s.ord a).toNat, by omega, by omega⟩

/-- A vertex is a root, or hangs at its parent. -/
theorem Hang1.cases (hval : Si.Val n es) {v : Nat} (h : Hang1 es s v) : (at_ s.par v = -1 ∧ up es s v = -1 ∧ at_ s.hei v = 0) ∨ ∃ u : Nat, u < n ∧ up es s v = (u : Int) ∧ at_ s.par v ≠ -1 ∧ at_ s.hei v = IntKind.i64.wrap (at_ s.hei u + 1) := by
  rcases h with ⟨h1, h2⟩ | ⟨x, hx, h1, h2, h3, h4⟩
  · refine .inl ⟨h1, ?_, h2⟩
    unfold up
    rw [Int.toNat_natCast, h1]
    exact Cs.frI_no (by omega)
  · refine .inr ⟨Cs.fr es x, (Cs.half_lt hval hx).1, ?_, by rw [h1]; omega, h4⟩
    unfold up
    rw [Int.toNat_natCast, h1]
    exact Cs.frI_in hx

/-- The height is how long the way is. -/
theorem height_way (hval : Si.Val n es) (hh : Hang n es s) : ∀ (Y : List Int) (v : Nat), v < n → IsWay es s ((v : Int) :: Y) → Y.length < 4611686018427387904 → at_ s.hei v = (Y.length : Int)
  | [], v, hv, hw, _ => by
    rcases (hh v hv).cases hval with ⟨_, _, h⟩ | ⟨u, _, h, _⟩
    · simpa using h
    · have := hw.2.1
      simp at this
      omega
  | y :: Y, v, hv, hw, hl => by
    have h1 := hw.2.1
    have hy0 := hw.2.2.1
    simp at h1
    rcases (hh v hv).cases hval with ⟨_, h, _⟩ | ⟨u, hu, h, _, h4⟩
    · omega
    · obtain rfl : y = (u : Int) := by omega
      have ih := height_way hval hh Y u hu hw.2.2 (by simp at hl; omega)
      rw [h4, ih, IntKind.wrap_i64]
      simp at hl ⊢
      omega

/-- Whoever is above stands higher. -/
theorem height_above (hval : Si.Val n es) (hh : Hang n es s) : ∀ (Y : List Int) (v : Nat), v < n → IsWay es s ((v : Int) :: Y) → Y.length < 4611686018427387904 → ∀ x : Nat, (x : Int) ∈ Y → at_ s.hei x < at_ s.hei v
  | [], v, hv, hw, _, x, hx => by simp at hx
  | y :: Y, v, hv, hw, hl, x, hx => by
    have h1 := hw.2.1
    have hy0 := hw.2.2.1
    simp at h1
    rcases (hh v hv).cases hval with ⟨_, h, _⟩ | ⟨u, hu, h, _, _⟩
    · omega
    · obtain rfl : y = (u : Int) := by omega
      have e1 := height_way hval hh ((u : Int) :: Y) v hv hw hl
      have hl2 : Y.length < 4611686018427387904 := by simp at hl; omega
      have e2 := height_way hval hh Y u hu hw.2.2 hl2
      have hlt : at_ s.hei u < at_ s.hei v := by rw [e1, e2]; simp; omega
      rcases List.mem_cons.1 hx with e | hx
      · obtain rfl : x = u := by omega
        exact hlt
      · have := height_above hval hh Y u hu hw.2.2 hl2 x hx
        omega

/-- An edge is walked one way; as a tree edge, or back to a vertex above. -/
def Edge1 (es : List (Int × Int)) (s : St) (e : Nat) : Prop :=
  ∃ h : Nat, (h = 2 * e ∨ h = 2 * e + 1) ∧ at_ s.ori e = (h : Int) ∧ (at_ s.par (Cs.to es h) = (h : Int) ∨ Anc es s (Cs.to es h) (Cs.fr es h))

/-- A depth-first forest of a valid graph. -/
structure VF (n : Nat) (es : List (Int × Int)) (s : St) : Prop where
  lens : Lens n es s
  once : Once n s n
  hang : Hang n es s
  side : ∃ q, side n es s n = some q
  edge : ∀ e, e < es.length → Edge1 es s e

/-- Heights are from 0 to below n, 0 just of roots. -/
def Rooted (n : Nat) (s : St) : Prop := ∀ v, v < n → 0 ≤ at_ s.hei v ∧ at_ s.hei v < (n : Int) ∧ (at_ s.hei v = 0 ↔ at_ s.par v = -1)

theorem rooted_of (hval : Si.Val n es) (ho : Once n s n) (hh : Hang n es s) (hs : ∃ q, Df.side n es s n = some q) : Rooted n s := by
  intro v hv
  obtain ⟨⟨W, B⟩, hs⟩ := hs
  obtain ⟨Y, hw, hl, _⟩ := way_of (es := es) ho hs hv
  have hn := hval.hi
  have e := height_way hval hh Y v hv hw (by omega)
  rw [e]
  refine ⟨by omega, by omega, ?_⟩
  rcases (hh v hv).cases hval with ⟨h1, h2, h3⟩ | ⟨u, _, h2, h3, _⟩
  · constructor
    · exact fun _ => h1
    · intro _
      omega
  · constructor
    · intro h0
      have hY : Y = [] := List.length_eq_zero_iff.1 (by omega)
      rw [hY] at hw
      have := hw.2.1
      simp at this
      omega
    · exact fun h => absurd h h3

/-- Who is above another stands higher. -/
theorem anc_height (hval : Si.Val n es) (ho : Once n s n) (hh : Hang n es s) (hs : ∃ q, Df.side n es s n = some q) {u v : Nat} (hv : v < n) (hne : u ≠ v) (ha : Anc es s u v) : at_ s.hei u < at_ s.hei v := by
  obtain ⟨⟨W, B⟩, hs⟩ := hs
  obtain ⟨Y, hw, hl, _⟩ := way_of (es := es) ho hs hv
  have hn := hval.hi
  rw [Anc.iff hw] at ha
  rcases List.mem_cons.1 ha with e | ha
  · omega
  · exact height_above hval hh Y v hv hw (by omega) u ha

/-- Of the ends of an edge just one is above the other. -/
theorem VF.one (hval : Si.Val n es) (h : VF n es s) {e : Nat} (he : e < es.length) : (Anc es s (Cs.fr es (2 * e)) (Cs.to es (2 * e)) ∧ ¬ Anc es s (Cs.to es (2 * e)) (Cs.fr es (2 * e))) ∨ (Anc es s (Cs.to es (2 * e)) (Cs.fr es (2 * e)) ∧ ¬ Anc es s (Cs.fr es (2 * e)) (Cs.to es (2 * e))) := by
  have hh0 : 2 * e < 2 * es.length := by omega
  obtain ⟨hf, ht⟩ := Cs.half_lt hval hh0
  have hne : Cs.fr es (2 * e) ≠ Cs.to es (2 * e) := by
    obtain ⟨p, hp⟩ : ∃ p, es[e]? = some p := ⟨_, List.getElem?_eq_getElem he⟩
    have ho := hval.each _ p hp
    unfold Si.ok at ho
    obtain ⟨e1, e2⟩ := Cs.fr_even hp
    omega
  have anti : ∀ u v : Nat, u < n → v < n → u ≠ v → Anc es s u v → ¬ Anc es s v u := fun u v hu hv hn h1 h2 => by
    have := anc_height hval h.once h.hang h.side hv hn h1
    have := anc_height hval h.once h.hang h.side hu (Ne.symm hn) h2
    omega
  have tree : ∀ x : Nat, x < 2 * es.length → at_ s.par (Cs.to es x) = (x : Int) → Anc es s (Cs.fr es x) (Cs.to es x) := fun x hx hp => by
    obtain ⟨⟨W, B⟩, hs⟩ := h.side
    obtain ⟨Y, hw, _, _⟩ := way_of (es := es) h.once hs (Cs.half_lt hval hx).2
    refine (Anc.iff hw).2 ?_
    have h1 := hw.2.1
    have hup : up es s (Cs.to es x : Int) = (Cs.fr es x : Int) := by
      unfold up
      rw [Int.toNat_natCast, hp]
      exact Cs.frI_in hx
    rw [hup] at h1
    cases Y with
    | nil => simp at h1
    | cons y Y =>
      simp at h1
      rw [h1]
      exact List.mem_cons_of_mem _ List.mem_cons_self
  have two : ∀ x : Nat, (x = 2 * e ∨ x = 2 * e + 1) → (Cs.fr es x = Cs.fr es (2 * e) ∧ Cs.to es x = Cs.to es (2 * e)) ∨ (Cs.fr es x = Cs.to es (2 * e) ∧ Cs.to es x = Cs.fr es (2 * e)) := fun x hx => by
    obtain ⟨p, hp⟩ : ∃ p, es[e]? = some p := ⟨_, List.getElem?_eq_getElem he⟩
    obtain ⟨e1, e2⟩ := Cs.fr_even hp
    obtain ⟨e3, e4⟩ := Cs.fr_odd hp
    rcases hx with rfl | rfl
    · exact .inl ⟨rfl, rfl⟩
    · exact .inr ⟨by rw [e3, e2], by rw [e4, e1]⟩
  obtain ⟨x, hx, _, hc⟩ := h.edge e he
  have hxl : x < 2 * es.length := by omega
  have main : Anc es s (Cs.fr es x) (Cs.to es x) ∨ Anc es s (Cs.to es x) (Cs.fr es x) := by
    rcases hc with hc | hc
    · exact .inl (tree x hxl hc)
    · exact .inr hc
  rcases two x hx with ⟨e1, e2⟩ | ⟨e1, e2⟩
  · rw [e1, e2] at main
    rcases main with h1 | h1
    · exact .inl ⟨h1, anti _ _ hf ht hne h1⟩
    · exact .inr ⟨h1, anti _ _ ht hf (Ne.symm hne) h1⟩
  · rw [e1, e2] at main
    rcases main with h1 | h1
    · exact .inr ⟨h1, anti _ _ ht hf (Ne.symm hne) h1⟩
    · exact .inl ⟨h1, anti _ _ hf ht hne h1⟩
end

end Df

namespace Df
theorem side_none {n : Nat} {es : List (Int × Int)} {s : St} {k : Nat} (h : side n es s k = none) : ∀ d, side n es s (k + d) = none
  | 0 => h
  | d + 1 => by
    show side n es s (k + d + 1) = none
    unfold side
    rw [side_none h d]
    rfl

theorem side_range {n : Nat} {es : List (Int × Int)} {s : St} (ho : Once n s n) {k : Nat} (hk : k ≤ n) {W B : List Int} (h : side n es s k = some (W, B)) : (∀ x ∈ W, 0 ≤ x ∧ x < (n : Int)) ∧ W.length ≤ k ∧ B.length = n := by
  have inv := side_inv ho k hk W B h
  refine ⟨fun x hx => ?_, inv.len, inv.lenB⟩
  obtain ⟨a, ha, rfl⟩ := inv.sub x hx
  exact (ho a (by omega)).1
end Df

/-- The graph is valid and the forest one of it. -/
def IsVF (n : Int) (es : List (Int × Int)) (s : Df.St) : Prop := ∃ m : Nat, n = (m : Int) ∧ Si.Val m es ∧ Df.VF m es s

end Go.Proofs.YtalfpbalekbinaaGreat

/-
  How far up the edges of a depth-first forest lead, pure: what the document says.
-/
namespace Go.Proofs.YtalfpbalekbinaaGreat
namespace Lo
open Df

/-- The half-edge by which an edge is walked; where it begins, where it leads. -/
def oh (s : St) (e : Nat) : Nat := (at_ s.ori e).toNat
def fr (es : List (Int × Int)) (s : St) (e : Nat) : Nat := Cs.fr es (oh s e)
def go_ (es : List (Int × Int)) (s : St) (e : Nat) : Nat := Cs.to es (oh s e)
/-- Is it a tree edge? -/
def tree (es : List (Int × Int)) (s : St) (e : Nat) : Bool := decide (at_ s.par (go_ es s e) = at_ s.ori e)
/-- The height to which an edge leads, and that at which it begins. -/
def ht (es : List (Int × Int)) (s : St) (e : Nat) : Int := at_ s.hei (go_ es s e)
def hf (es : List (Int × Int)) (s : St) (e : Nat) : Int := at_ s.hei (fr es s e)

open Classical in
/-- Is b a return edge of the tree edge e? -/
noncomputable def isRet (es : List (Int × Int)) (s : St) (e b : Nat) : Bool := !tree es s b && (decide (ht es s b < hf es s e) && decide (Anc es s (go_ es s e) (fr es s b)))
noncomputable def rets (es : List (Int × Int)) (s : St) (e : Nat) : List Nat := if tree es s e = true then (List.range es.length).filter (isRet es s e) else [e]

/-- The least of h and the numbers of a list. -/
def least (h : Int) : List Int → Int
  | [] => h
  | x :: l => least (min h x) l
theorem least_snoc (h : Int) : ∀ (l : List Int) (x : Int), least h (l ++ [x]) = min (least h l) x
  | [], _ => rfl
  | y :: l, x => least_snoc (min h y) l x
theorem least_le (h : Int) : ∀ (l : List Int), least h l ≤ h ∧ ∀ x ∈ l, least h l ≤ x
  | [] => ⟨Int.le_refl _, fun x hx => by simp at hx⟩
  | y :: l => by
    obtain ⟨h1, h2⟩ := least_le (min h y) l
    refine ⟨?_, fun x hx => ?_⟩
    · show least (min h y) l ≤ h
      omega
    · rcases List.mem_cons.1 hx with rfl | hx
      · show least (min h x) l ≤ x
        omega
      · exact h2 x hx
theorem least_mem (h : Int) : ∀ (l : List Int), least h l = h ∨ least h l ∈ l
  | [] => .inl rfl
  | y :: l => by
    show least (min h y) l = h ∨ least (min h y) l ∈ y :: l
    rcases least_mem (min h y) l with h1 | h1
    · rw [h1]
      by_cases hy : h ≤ y
      · exact .inl (by omega)
      · exact .inr (by rw [show min h y = y by omega]; exact List.mem_cons_self)
    · exact .inr (List.mem_cons_of_mem _ h1)

/-- The heights to which the return edges lead. -/
noncomputable def hs (es : List (Int × Int)) (s : St) (e : Nat) : List Int := (rets es s e).map (ht es s)
noncomputable def low (es : List (Int × Int)) (s : St) (e : Nat) : Int := least (hf es s e) (hs es s e)
/-- The least that is greater than Low; h(v), if nothing returns. -/
noncomputable def low2 (es : List (Int × Int)) (s : St) (e : Nat) : Int := least (hf es s e) ((hs es s e).filter fun x => decide (low es s e < x))
noncomputable def nest (es : List (Int × Int)) (s : St) (e : Nat) : Int := if low es s e < low2 es s e ∧ low2 es s e < hf es s e then 2 * low es s e + 1 else 2 * low es s e

section
variable {n : Nat} {es : List (Int × Int)} {s : St} {e : Nat}

/-- An edge's half-edge. -/
theorem oh_of (h : VF n es s) (he : e < es.length) : at_ s.ori e = (oh s e : Int) ∧ (oh s e = 2 * e ∨ oh s e = 2 * e + 1) ∧ oh s e < 2 * es.length ∧ oh s e / 2 = e := by
  obtain ⟨x, h1, h2, _⟩ := h.edge e he
  have : oh s e = x := by unfold oh; rw [h2]; simp
  rw [this]
  exact ⟨h2, h1, by omega, by omega⟩
theorem ends_lt (hv : Si.Val n es) (h : VF n es s) (he : e < es.length) : fr es s e < n ∧ go_ es s e < n := Cs.half_lt hv (oh_of h he).2.2.1

/-- A tree edge leads to where it hangs; a back edge to a vertex above. -/
theorem tree_iff (h : VF n es s) (he : e < es.length) : tree es s e = true ↔ at_ s.par (go_ es s e) = (oh s e : Int) := by
  unfold tree
  rw [decide_eq_true_iff, (oh_of h he).1]
theorem back_anc (h : VF n es s) (he : e < es.length) (hb : tree es s e = false) : Anc es s (go_ es s e) (fr es s e) := by
  obtain ⟨x, h1, h2, h3⟩ := h.edge e he
  have hx : oh s e = x := by unfold oh; rw [h2]; simp
  rcases h3 with h3 | h3
  · have := (tree_iff h he).2 (by unfold go_; rw [hx]; exact h3)
    rw [hb] at this
    cases this
  · unfold go_ fr
    rw [hx]
    exact h3
end
end Lo
end Go.Proofs.YtalfpbalekbinaaGreat

/-
  How far up edges lead, pure: Low, Low2 and Nest (P8.2, P8.3).
-/
namespace Go.Proofs.YtalfpbalekbinaaGreat
namespace Lo
open Df
section
variable {n : Nat} {es : List (Int × Int)} {s : St} {e b : Nat}

theorem ends_ne (hv : Si.Val n es) (h : VF n es s) (he : e < es.length) : go_ es s e ≠ fr es s e := by
  obtain ⟨_, _, hl, _⟩ := oh_of h he
  have hlt := hl
  unfold go_ fr
  obtain ⟨p, hp⟩ : ∃ p, es[oh s e / 2]? = some p := ⟨_, List.getElem?_eq_getElem (by omega)⟩
  have ho := hv.each _ p hp
  unfold Si.ok at ho
  have e2 : oh s e = 2 * (oh s e / 2) ∨ oh s e = 2 * (oh s e / 2) + 1 := by omega
  obtain ⟨e3, e4⟩ := Cs.fr_even hp
  obtain ⟨e5, e6⟩ := Cs.fr_odd hp
  rcases e2 with e2 | e2
  · rw [e2, e3, e4]; omega
  · rw [e2, e5, e6]; omega

/-- A back edge leads up. -/
theorem back_up (hv : Si.Val n es) (h : VF n es s) (he : e < es.length) (hb : tree es s e = false) : ht es s e < hf es s e :=
  anc_height hv h.once h.hang h.side (ends_lt hv h he).1 (ends_ne hv h he) (back_anc h he hb)

theorem mem_rets_tree (ht' : tree es s e = true) : b ∈ rets es s e ↔ b < es.length ∧ tree es s b = false ∧ ht es s b < hf es s e ∧ Anc es s (go_ es s e) (fr es s b) := by
  unfold rets
  rw [if_pos ht', List.mem_filter, List.mem_range]
  unfold isRet
  simp
theorem rets_back (hb : tree es s e = false) : rets es s e = [e] := by
  unfold rets
  rw [if_neg (by rw [hb]; decide)]

/-- All return edges lead above where the edge begins; they are edges. -/
theorem rets_lt (hv : Si.Val n es) (h : VF n es s) (he : e < es.length) (hb : b ∈ rets es s e) : b < es.length ∧ tree es s b = false ∧ ht es s b < hf es s e := by
  cases ht' : tree es s e with
  | true =>
    obtain ⟨h1, h2, h3, _⟩ := (mem_rets_tree ht').1 hb
    exact ⟨h1, h2, h3⟩
  | false =>
    rw [rets_back ht', List.mem_singleton] at hb
    subst hb
    exact ⟨he, ht', back_up hv h he ht'⟩

theorem hs_lt (hv : Si.Val n es) (h : VF n es s) (he : e < es.length) : ∀ x ∈ hs es s e, x < hf es s e := fun x hx => by
  obtain ⟨b, hb, rfl⟩ := List.mem_map.1 hx
  exact (rets_lt hv h he hb).2.2

/-- Low is at most Low2, that at most h(v). -/
theorem low_le (es : List (Int × Int)) (s : St) (e : Nat) : low es s e ≤ low2 es s e ∧ low2 es s e ≤ hf es s e := by
  have h1 := least_le (hf es s e) (hs es s e)
  have h2 := least_le (hf es s e) ((hs es s e).filter fun x => decide (low es s e < x))
  refine ⟨?_, h2.1⟩
  rcases least_mem (hf es s e) ((hs es s e).filter fun x => decide (low es s e < x)) with h3 | h3
  · unfold low2; rw [h3]; exact h1.1
  · have h4 := (List.mem_filter.1 h3).1
    exact h1.2 _ h4

/-- They are one just if there is no return edge. -/
theorem low_eq_iff (hv : Si.Val n es) (h : VF n es s) (he : e < es.length) : low es s e = low2 es s e ↔ rets es s e = [] := by
  constructor
  · intro hl
    refine Classical.byContradiction fun hne => ?_
    obtain ⟨b, hb⟩ := List.exists_mem_of_ne_nil _ hne
    have h1 := (least_le (hf es s e) (hs es s e)).2 _ (List.mem_map.2 ⟨b, hb, rfl⟩)
    have h2 := hs_lt hv h he _ (List.mem_map.2 ⟨b, hb, rfl⟩)
    have h3 : low es s e < hf es s e := by unfold low; omega
    rcases least_mem (hf es s e) ((hs es s e).filter fun x => decide (low es s e < x)) with h4 | h4
    · have h5 : low2 es s e = hf es s e := h4
      omega
    · have h5 := (List.mem_filter.1 h4).2
      have h6 : low es s e < low2 es s e := by unfold low2; simpa using h5
      omega
  · intro hr
    unfold low low2 hs
    rw [hr]
    rfl

theorem low_lt_iff (hv : Si.Val n es) (h : VF n es s) (he : e < es.length) : low es s e < hf es s e ↔ rets es s e ≠ [] := by
  constructor
  · intro hl hr
    unfold low hs at hl
    rw [hr] at hl
    simp [least] at hl
  · intro hne
    obtain ⟨b, hb⟩ := List.exists_mem_of_ne_nil _ hne
    have h1 := (least_le (hf es s e) (hs es s e)).2 _ (List.mem_map.2 ⟨b, hb, rfl⟩)
    have h2 := hs_lt hv h he _ (List.mem_map.2 ⟨b, hb, rfl⟩)
    unfold low
    omega

/-- Low of a back edge. -/
theorem low_back (hv : Si.Val n es) (h : VF n es s) (he : e < es.length) (hb : tree es s e = false) : low es s e = ht es s e := by
  have := back_up hv h he hb
  unfold low hs
  rw [rets_back hb]
  show min (hf es s e) (ht es s e) = _
  omega

theorem low_nonneg (hv : Si.Val n es) (h : VF n es s) (he : e < es.length) : 0 ≤ low es s e := by
  have hr := rooted_of hv h.once h.hang h.side
  unfold low
  rcases least_mem (hf es s e) (hs es s e) with h1 | h1
  · rw [h1]; exact (hr _ (ends_lt hv h he).1).1
  · obtain ⟨b, hb, hb2⟩ := List.mem_map.1 h1
    rw [← hb2]
    exact (hr _ (ends_lt hv h (rets_lt hv h he hb).1).2).1

/-- Who hangs at the end of a tree edge. -/
theorem tree_up (hv : Si.Val n es) (h : VF n es s) (he : e < es.length) (ht' : tree es s e = true) : Df.up es s (go_ es s e) = (fr es s e : Int) ∧ ht es s e = hf es s e + 1 := by
  have h1 := (tree_iff h he).1 ht'
  obtain ⟨_, _, hl, _⟩ := oh_of h he
  have hup : Df.up es s (go_ es s e) = (fr es s e : Int) := by
    unfold Df.up
    rw [Int.toNat_natCast, h1, Cs.frI_in hl]
    rfl
  refine ⟨hup, ?_⟩
  obtain ⟨⟨W, B⟩, hs'⟩ := h.side
  obtain ⟨Y, hw, hly, _⟩ := way_of (es := es) h.once hs' (ends_lt hv h he).2
  have hn := hv.hi
  have e1 := height_way hv h.hang Y _ (ends_lt hv h he).2 hw (by omega)
  cases Y with
  | nil =>
    have := hw.2.1
    rw [hup] at this
    simp at this
  | cons y Y =>
    have h2 := hw.2.1
    rw [hup] at h2
    have h3 : y = (fr es s e : Int) := by simpa using h2.symm
    have hw2 := hw.2.2
    rw [h3] at hw2
    have e2 := height_way hv h.hang Y _ (ends_lt hv h he).1 hw2 (by simp at hly; omega)
    show at_ s.hei (go_ es s e) = at_ s.hei (fr es s e) + 1
    rw [e1, e2]
    simp

theorem anc_trans {es : List (Int × Int)} {s : St} {a b c : Int} (h1 : Anc es s a b) (h2 : Anc es s b c) : Anc es s a c := by
  obtain ⟨W, hw, hb⟩ := h2
  refine ⟨W, hw, ?_⟩
  obtain ⟨X, Y, hXY⟩ := List.append_of_mem hb
  have hw2 := hw
  rw [hXY] at hw2
  have hmem := (Anc.iff hw2.tail).1 h1
  rw [hXY]
  exact List.mem_append_right _ hmem

/-- Whoever is above the end of the next edge, and not there itself, is above where it begins. -/
theorem anc_child {es : List (Int × Int)} {s : St} {w x v : Int} {W : List Int} (hw : IsWay es s (v :: W)) (hx : x ∈ v :: W) (hup : Df.up es s x = w) (hw0 : 0 ≤ w) : Anc es s w v := by
  obtain ⟨X, Y, hXY⟩ := List.append_of_mem hx
  have hw2 := hw
  rw [hXY] at hw2
  have ht := hw2.tail
  have h1 := ht.2.1
  rw [hup] at h1
  refine ⟨W, hw, ?_⟩
  rw [hXY]
  cases Y with
  | nil => simp at h1; omega
  | cons y Y =>
    have : w = y := by simpa using h1
    rw [this]
    simp
end
end Lo
end Go.Proofs.YtalfpbalekbinaaGreat

/-
  How far up edges lead, pure: Low of a tree edge by what goes on from its lower end (P8.3).
-/
namespace Go.Proofs.YtalfpbalekbinaaGreat
namespace Lo
open Df
section
variable {n : Nat} {es : List (Int × Int)} {s : St} {e b : Nat}

theorem anc_self (h : VF n es s) {v : Nat} (hv : v < n) : Anc es s v v := by
  obtain ⟨⟨W, B⟩, hs'⟩ := h.side
  obtain ⟨Y, hw, _, _⟩ := way_of (es := es) h.once hs' hv
  exact ⟨Y, hw, List.mem_cons_self⟩

theorem last_of {α : Type} : ∀ (X : List α), X ≠ [] → ∃ X' x, X = X' ++ [x]
  | [], h => absurd rfl h
  | x :: X, _ => by
    by_cases hX : X = []
    · exact ⟨[], x, by rw [hX]; rfl⟩
    · obtain ⟨X', y, e⟩ := last_of X hX
      exact ⟨x :: X', y, by rw [e]; rfl⟩

/-- Who is above another and not it itself is so by a tree edge that begins there. -/
theorem child_of (h : VF n es s) {w v : Nat} (hvn : v < n) (ha : Anc es s w v) (hne : w ≠ v) : ∃ k, k < es.length ∧ tree es s k = true ∧ fr es s k = w ∧ Anc es s (go_ es s k) v := by
  obtain ⟨⟨W, B⟩, hs'⟩ := h.side
  obtain ⟨Y, hw, _, hrange⟩ := way_of (es := es) h.once hs' hvn
  have hmem := (Anc.iff hw).1 ha
  obtain ⟨X, Z, hXZ⟩ := List.append_of_mem hmem
  have hX : X ≠ [] := fun e => by
    rw [e] at hXZ
    simp at hXZ
    omega
  obtain ⟨X', x, rfl⟩ := last_of X hX
  have hw2 := hw
  rw [hXZ, List.append_assoc] at hw2
  have ht := hw2.tail
  have hup : Df.up es s x = (w : Int) := ht.2.1
  have hx0 : 0 ≤ x := ht.1
  have hxm : x ∈ (v : Int) :: Y := by rw [hXZ]; simp
  have hxn : ∃ u : Nat, u < n ∧ x = (u : Int) := by
    rcases List.mem_cons.1 hxm with e | hm
    · exact ⟨v, hvn, e⟩
    · exact hrange x hm
  obtain ⟨u, hun, rfl⟩ := hxn
  rcases h.hang u hun with ⟨h1, _⟩ | ⟨y, h1, h2, h3, h4, _⟩
  · unfold Df.up at hup
    rw [Int.toNat_natCast, h1, Cs.frI_no (by omega)] at hup
    omega
  · have hk : y / 2 < es.length := by omega
    have hoh : oh s (y / 2) = y := by unfold oh; rw [h4]; simp
    have hgo : go_ es s (y / 2) = u := by unfold go_; rw [hoh]; exact h3
    refine ⟨y / 2, hk, ?_, ?_, ?_⟩
    · rw [tree_iff h hk, hgo, hoh]
      exact h2
    · unfold fr
      rw [hoh]
      unfold Df.up at hup
      rw [Int.toNat_natCast, h2, Cs.frI_in h1] at hup
      omega
    · rw [hgo]
      exact ⟨Y, hw, hxm⟩

/-- P8.3. -/
theorem low_tree (hv : Si.Val n es) (h : VF n es s) (he : e < es.length) (ht' : tree es s e = true) : low es s e = least (hf es s e) (((List.range es.length).filter fun k => decide (fr es s k = go_ es s e)).map (low es s)) := by
  obtain ⟨hup, hht⟩ := tree_up hv h he ht'
  have hk1 : ∀ k, fr es s k = go_ es s e → hf es s k = hf es s e + 1 := fun k hk => by
    rw [← hht]
    unfold hf ht
    rw [hk]
  have hwn := (ends_lt hv h he).2
  have hLM : ∀ k, k < es.length → fr es s k = go_ es s e → low es s e ≤ low es s k ∨ hf es s e ≤ low es s k := fun k hk hfk => by
    by_cases hlo : hf es s e ≤ low es s k
    · exact .inr hlo
    · left
      have hlt : low es s k < hf es s k := by rw [hk1 k hfk]; omega
      rcases least_mem (hf es s k) (hs es s k) with h1 | h1
      · have h2 : low es s k = hf es s k := h1
        omega
      · obtain ⟨b, hb, hb2⟩ := List.mem_map.1 h1
        have hb3 : ht es s b = low es s k := hb2
        obtain ⟨b1, b2, _⟩ := rets_lt hv h hk hb
        have hbr : b ∈ rets es s e := by
          rw [mem_rets_tree ht']
          refine ⟨b1, b2, by omega, ?_⟩
          cases htk : tree es s k with
          | true =>
            have h5 := ((mem_rets_tree htk).1 hb).2.2.2
            obtain ⟨hupk, _⟩ := tree_up hv h hk htk
            have h6 : Anc es s (go_ es s e) (go_ es s k) := by
              obtain ⟨⟨W, B⟩, hs'⟩ := h.side
              obtain ⟨Y, hw, _, _⟩ := way_of (es := es) h.once hs' (ends_lt hv h hk).2
              rw [← hfk]
              exact anc_child hw List.mem_cons_self hupk (by omega)
            exact anc_trans h6 h5
          | false =>
            rw [rets_back htk, List.mem_singleton] at hb
            rw [hb, hfk]
            exact anc_self h hwn
        have h7 := (least_le (hf es s e) (hs es s e)).2 _ (List.mem_map.2 ⟨b, hbr, rfl⟩)
        have h8 : low es s e ≤ ht es s b := h7
        omega
  apply Int.le_antisymm
  · rcases least_mem (hf es s e) (((List.range es.length).filter fun k => decide (fr es s k = go_ es s e)).map (low es s)) with h1 | h1
    · rw [h1]
      exact (least_le (hf es s e) (hs es s e)).1
    · obtain ⟨k, hk, hk2⟩ := List.mem_map.1 h1
      rw [← hk2]
      obtain ⟨hk3, hk4⟩ := List.mem_filter.1 hk
      rcases hLM k (List.mem_range.1 hk3) (by simpa using hk4) with h2 | h2
      · exact h2
      · exact Int.le_trans (least_le (hf es s e) (hs es s e)).1 h2
  · have hM := least_le (hf es s e) (((List.range es.length).filter fun k => decide (fr es s k = go_ es s e)).map (low es s))
    rcases least_mem (hf es s e) (hs es s e) with h1 | h1
    · show _ ≤ least _ _
      rw [h1]
      exact hM.1
    · obtain ⟨b, hb, hb2⟩ := List.mem_map.1 h1
      have hb3 : low es s e = ht es s b := hb2.symm
      rw [hb3]
      obtain ⟨b1, b2, b3, b4⟩ := (mem_rets_tree ht').1 hb
      by_cases hfb : fr es s b = go_ es s e
      · rw [← low_back hv h b1 b2]
        exact hM.2 _ (List.mem_map.2 ⟨b, List.mem_filter.2 ⟨List.mem_range.2 b1, by simpa using hfb⟩, rfl⟩)
      · obtain ⟨k, hk, htk, hfk, hak⟩ := child_of h (ends_lt hv h b1).1 b4 (fun e => hfb e.symm)
        have hbk : b ∈ rets es s k := by
          rw [mem_rets_tree htk]
          exact ⟨b1, b2, by rw [hk1 k hfk]; omega, hak⟩
        have h2 := (least_le (hf es s k) (hs es s k)).2 _ (List.mem_map.2 ⟨b, hbk, rfl⟩)
        have h3 := hM.2 (low es s k) (List.mem_map.2 ⟨k, List.mem_filter.2 ⟨List.mem_range.2 hk, by simpa using hfk⟩, rfl⟩)
        exact Int.le_trans h3 h2
end
end Lo
end Go.Proofs.YtalfpbalekbinaaGreat

/-
  Bridges, pure (P8.2): an edge whose Low is below where it begins is none; a tree edge is one just if nothing below it leads back to where it begins, or above.
-/
namespace Go.Proofs.YtalfpbalekbinaaGreat
namespace Lo
open Df

/-- No edge but e leads out of S, or in. -/
def Shut (es : List (Int × Int)) (s : St) (e : Nat) (S : Nat → Prop) : Prop := ∀ k, k < es.length → k ≠ e → (S (fr es s k) ↔ S (go_ es s k))
/-- Without e there is a path from a to b. -/
def Conn (es : List (Int × Int)) (s : St) (e a b : Nat) : Prop := ∀ S, Shut es s e S → (S a ↔ S b)

section
variable {n : Nat} {es : List (Int × Int)} {s : St} {e : Nat}

/-- The tree edge by which a vertex hangs. -/
theorem hang_edge (h : VF n es s) {x : Nat} {y : Int} (hx : x < n) (hup : Df.up es s x = y) (hy : 0 ≤ y) : ∃ k, k < es.length ∧ tree es s k = true ∧ go_ es s k = x ∧ (fr es s k : Int) = y := by
  rcases h.hang x hx with ⟨h1, _⟩ | ⟨z, h2, h3, h4, h5, _⟩
  · unfold Df.up at hup
    rw [Int.toNat_natCast, h1, Cs.frI_no (by omega)] at hup
    omega
  · have hk : z / 2 < es.length := by omega
    have hoh : oh s (z / 2) = z := by unfold oh; rw [h5]; simp
    have hgo : go_ es s (z / 2) = x := by unfold go_; rw [hoh]; exact h4
    refine ⟨z / 2, hk, ?_, hgo, ?_⟩
    · rw [tree_iff h hk, hgo, hoh]
      exact h3
    · unfold Df.up at hup
      rw [Int.toNat_natCast, h3, Cs.frI_in h2] at hup
      unfold fr
      rw [hoh]
      exact hup

/-- Along a way that does not go by e one stays. -/
theorem way_conn (h : VF n es s) {S : Nat → Prop} (hS : Shut es s e S) {a : Nat} : ∀ (X : List Int) (Y : List Int) (u : Nat), (∀ x ∈ (u : Int) :: X, ∃ z : Nat, z < n ∧ x = (z : Int)) → IsWay es s ((u : Int) :: X ++ (a : Int) :: Y) → (∀ x ∈ (u : Int) :: X, tree es s e = true → x ≠ (go_ es s e : Int)) → (S u ↔ S a)
  | [], Y, u, hr, hw, hne => by
    obtain ⟨z, hz, hzu⟩ := hr u List.mem_cons_self
    have hup : Df.up es s u = (a : Int) := hw.2.1
    obtain ⟨k, hk, htk, hgk, hfk⟩ := hang_edge h (x := u) (by omega) hup (by omega)
    have hke : k ≠ e := fun e1 => by
      subst e1
      exact hne u List.mem_cons_self htk (by rw [hgk])
    have := hS k hk hke
    rw [hgk, show fr es s k = a by omega] at this
    exact this.symm
  | y :: X, Y, u, hr, hw, hne => by
    obtain ⟨z, hz, hzu⟩ := hr u List.mem_cons_self
    obtain ⟨q, hq, rfl⟩ := hr y (List.mem_cons_of_mem _ List.mem_cons_self)
    have hup : Df.up es s u = (q : Int) := hw.2.1
    obtain ⟨k, hk, htk, hgk, hfk⟩ := hang_edge h (x := u) (by omega) hup (by omega)
    have hke : k ≠ e := fun e1 => by
      subst e1
      exact hne u List.mem_cons_self htk (by rw [hgk])
    have h1 := hS k hk hke
    rw [hgk, show fr es s k = q by omega] at h1
    have h2 := way_conn h hS X Y q (fun x hx => hr x (List.mem_cons_of_mem _ hx)) hw.2.2 (fun x hx => hne x (List.mem_cons_of_mem _ hx))
    exact h1.symm.trans h2

/-- From u up to a vertex above it, if the end of e does not stand between. -/
theorem up_conn (h : VF n es s) {S : Nat → Prop} (hS : Shut es s e S) {a u : Nat} (hu : u < n) (ha : Anc es s a u) (hne : tree es s e = true → ∀ x : Nat, Anc es s a x → a ≠ x → Anc es s x u → x ≠ go_ es s e) : S u ↔ S a := by
  by_cases hau : a = u
  · rw [hau]
  · obtain ⟨⟨W, B⟩, hs'⟩ := h.side
    obtain ⟨Y, hw, _, hr⟩ := way_of (es := es) h.once hs' hu
    have hm := (Anc.iff hw).1 ha
    obtain ⟨X, Z, hXZ⟩ := List.append_of_mem hm
    cases X with
    | nil =>
      exfalso
      have : (u : Int) = (a : Int) := by
        simp at hXZ
        omega
      omega
    | cons x0 X =>
      have hx0 : x0 = (u : Int) := by
        simp at hXZ
        exact hXZ.1.symm
      subst hx0
      have hw2 := hw
      rw [hXZ] at hw2
      refine way_conn h hS X Z u (fun x hx => ?_) hw2 (fun x hx ht e1 => ?_)
      · rcases List.mem_cons.1 hx with rfl | hx
        · exact ⟨u, hu, rfl⟩
        · refine hr x ?_
          have : x ∈ (u : Int) :: Y := by rw [hXZ]; simp [hx]
          rcases List.mem_cons.1 this with rfl | h3
          · have hn : ((u : Int) :: X ++ (a : Int) :: Z).Nodup := by
              have := (side_inv h.once n (Nat.le_refl _) W B hs')
              obtain ⟨b, hb, eb⟩ := h.once.onto hu
              obtain ⟨_, ⟨Y', hY'⟩, hw', _, hnd⟩ := this.hist b hb
              rw [eb] at hY'
              rw [hY'] at hw' hnd
              have he := IsWay.unique hw hw' rfl
              rw [← hXZ, he]
              exact hnd
            rw [List.cons_append, List.nodup_cons] at hn
            exact absurd (List.mem_append_left _ hx) hn.1
          · exact h3
      · have hsuf : ∃ X1 X2, (u : Int) :: X = X1 ++ x :: X2 := List.append_of_mem hx
        obtain ⟨X1, X2, hX12⟩ := hsuf
        have hway : IsWay es s (x :: (X2 ++ (a : Int) :: Z)) := by
          have hw3 := hw2
          rw [hX12, List.append_assoc] at hw3
          exact hw3.tail
        rw [e1] at hway hX12
        have hax : Anc es s a (go_ es s e) := ⟨_, hway, by simp⟩
        have hxu : Anc es s (go_ es s e) u := ⟨Y, hw, by rw [hXZ, hX12]; simp⟩
        have hne2 : a ≠ go_ es s e := fun e2 => by
          have hn : ((u : Int) :: X ++ (a : Int) :: Z).Nodup := by
            have := (side_inv h.once n (Nat.le_refl _) W B hs')
            obtain ⟨b, hb, eb⟩ := h.once.onto hu
            obtain ⟨_, ⟨Y', hY'⟩, hw', _, hnd⟩ := this.hist b hb
            rw [eb] at hY'
            rw [hY'] at hw' hnd
            have he := IsWay.unique hw hw' rfl
            rw [← hXZ, he]
            exact hnd
          rw [List.nodup_append] at hn
          exact hn.2.2 (go_ es s e : Int) (by rw [hX12]; simp) (a : Int) List.mem_cons_self (by rw [e2])
        exact hne ht _ hax hne2 hxu rfl
end
end Lo
end Go.Proofs.YtalfpbalekbinaaGreat
