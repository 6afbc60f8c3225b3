import Derived.Test.YtalfpbalekbinaaGreatMg06
/-
  Bridges, pure (P8.2): which edges are none.
-/
namespace Go.Proofs.YtalfpbalekbinaaGreat
namespace Lo
open Df
section
variable {n : Nat} {es : List (Int × Int)} {s : St} {e : Nat}

/-- Of two that are above one vertex the higher is above the other. -/
theorem anc_cmp (hv : Si.Val n es) (h : VF n es s) {a c u : Nat} (hu : u < n) (han : a < n) (ha : Anc es s a u) (hc : Anc es s c u) (hle : at_ s.hei a ≤ at_ s.hei c) : Anc es s a c := by
  obtain ⟨⟨W, B⟩, hs'⟩ := h.side
  obtain ⟨Y, hw, _, _⟩ := way_of (es := es) h.once hs' hu
  have hma := (Anc.iff hw).1 ha
  obtain ⟨X, Z, hXZ⟩ := List.append_of_mem ((Anc.iff hw).1 hc)
  rw [hXZ] at hma hw
  rcases List.mem_append.1 hma with h1 | h1
  · obtain ⟨X1, X2, hX⟩ := List.append_of_mem h1
    have hw2 := hw
    rw [hX, List.append_assoc] at hw2
    have hca : Anc es s c a := ⟨_, hw2.tail, by simp⟩
    by_cases hac : c = a
    · rw [hac]
      exact anc_self h han
    · have := anc_height hv h.once h.hang h.side han hac hca
      omega
  · exact ⟨_, hw.tail, h1⟩

theorem child_anc (hv : Si.Val n es) (h : VF n es s) (he : e < es.length) (ht : tree es s e = true) : Anc es s (fr es s e) (go_ es s e) := by
  obtain ⟨hup, _⟩ := tree_up hv h he ht
  obtain ⟨⟨W, B⟩, hs'⟩ := h.side
  obtain ⟨Y, hw, _, _⟩ := way_of (es := es) h.once hs' (ends_lt hv h he).2
  exact anc_child hw List.mem_cons_self hup (by omega)

/-- Who is above the lower end, and not it, is above the upper. -/
theorem anc_parent (hv : Si.Val n es) (h : VF n es s) (he : e < es.length) (ht : tree es s e = true) {a : Nat} (ha : Anc es s a (go_ es s e)) (hne : a ≠ go_ es s e) : Anc es s a (fr es s e) := by
  obtain ⟨hup, _⟩ := tree_up hv h he ht
  obtain ⟨⟨W, B⟩, hs'⟩ := h.side
  obtain ⟨Y, hw, _, _⟩ := way_of (es := es) h.once hs' (ends_lt hv h he).2
  have hm := (Anc.iff hw).1 ha
  rcases List.mem_cons.1 hm with e1 | hm
  · omega
  · cases Y with
    | nil => simp at hm
    | cons y Y =>
      have h1 := hw.2.1
      rw [hup] at h1
      have hy : (fr es s e : Int) = y := by simpa using h1
      subst hy
      exact ⟨Y, hw.2.2, hm⟩

/-- The ends of a back edge hang together without it. -/
theorem back_conn (hv : Si.Val n es) (h : VF n es s) (he : e < es.length) (hb : tree es s e = false) : Conn es s e (fr es s e) (go_ es s e) := fun S hS =>
  up_conn h hS (ends_lt hv h he).1 (back_anc h he hb) (fun ht => by rw [hb] at ht; cases ht)

/-- A tree edge is no bridge just if what goes on from its lower end leads back to where it begins, or above. -/
theorem tree_conn (hv : Si.Val n es) (h : VF n es s) (he : e < es.length) (ht : tree es s e = true) : (∃ k, k < es.length ∧ fr es s k = go_ es s e ∧ low es s k ≤ hf es s e) ↔ Conn es s e (fr es s e) (go_ es s e) := by
  obtain ⟨hup, hht⟩ := tree_up hv h he ht
  obtain ⟨hvn, hwn⟩ := ends_lt hv h he
  have hhw : at_ s.hei (go_ es s e) = at_ s.hei (fr es s e) + 1 := hht
  have hvw := child_anc hv h he ht
  have hnew : go_ es s e ≠ fr es s e := ends_ne hv h he
  have hnw : ¬ Anc es s (go_ es s e) (fr es s e) := fun ha => by
    have := anc_height hv h.once h.hang h.side hvn hnew ha
    omega
  constructor
  · rintro ⟨k, hk, hfk, hlk⟩ S hS
    have hke : k ≠ e := fun e1 => by
      rw [e1] at hfk
      exact hnew hfk.symm
    have hkf : hf es s k = hf es s e + 1 := by
      unfold hf
      rw [hfk]
      exact hhw
    -- from where the lower end is left back up to where e begins
    have hup2 : ∀ a : Nat, Anc es s a (fr es s e) → (S (fr es s e) ↔ S a) := fun a ha => up_conn h hS hvn ha (fun _ x _ _ hxv e1 => hnw (by rw [← e1]; exact hxv))
    cases htk : tree es s k with
    | false =>
      have h1 := hS k hk hke
      rw [hfk] at h1
      have hba := back_anc h hk htk
      rw [hfk] at hba
      have hlow := low_back hv h hk htk
      have hgne : go_ es s k ≠ go_ es s e := fun e1 => by
        have : Lo.ht es s k = at_ s.hei (go_ es s e) := by unfold Lo.ht; rw [e1]
        unfold hf at hlk
        omega
      have h2 := hup2 _ (anc_parent hv h he ht hba hgne)
      exact h2.trans h1.symm
    | true =>
      have h1 := hS k hk hke
      rw [hfk] at h1
      obtain ⟨_, hhk⟩ := tree_up hv h hk htk
      have hne : low es s k < hf es s k := by omega
      rcases least_mem (hf es s k) (hs es s k) with h2 | h2
      · have h3 : low es s k = hf es s k := h2
        omega
      · obtain ⟨b, hb, hb2⟩ := List.mem_map.1 h2
        have hb3 : Lo.ht es s b = low es s k := hb2
        obtain ⟨b1, b2, b3, b4⟩ := (mem_rets_tree htk).1 hb
        have hbe : b ≠ e := fun e1 => by
          rw [e1, ht] at b2
          cases b2
        have hbn := (ends_lt hv h b1).1
        have h3 := hS b b1 hbe
        have h4 : S (fr es s b) ↔ S (go_ es s k) := up_conn h hS hbn b4 (fun _ x hx hxne _ e1 => by
          rw [e1] at hx hxne
          have h5 := anc_height hv h.once h.hang h.side hwn hxne hx
          have h6 : Lo.ht es s k = at_ s.hei (go_ es s k) := rfl
          have h7 : hf es s k = at_ s.hei (go_ es s e) := by unfold hf; rw [hfk]
          omega)
        have hck := child_anc hv h hk htk
        rw [hfk] at hck
        have hvb : Anc es s (fr es s e) (fr es s b) := anc_trans (anc_trans hvw hck) b4
        have hgb := anc_cmp hv h hbn (ends_lt hv h b1).2 (back_anc h b1 b2) hvb (by
          have h5 : Lo.ht es s b = at_ s.hei (go_ es s b) := rfl
          have h6 : hf es s e = at_ s.hei (fr es s e) := rfl
          omega)
        have h5 := hup2 _ hgb
        exact ((h5.trans h3.symm).trans h4).trans h1.symm
  · intro hc
    refine Classical.byContradiction fun hno => ?_
    have hshut : Shut es s e (fun u => Anc es s (go_ es s e) u) := fun k hk hke => by
      obtain ⟨hfn, hgn⟩ := ends_lt hv h hk
      cases htk : tree es s k with
      | true =>
        constructor
        · exact fun h1 => anc_trans h1 (child_anc hv h hk htk)
        · intro h1
          by_cases hg : go_ es s e = go_ es s k
          · exfalso
            have p1 := (tree_iff h he).1 ht
            have p2 := (tree_iff h hk).1 htk
            rw [hg, p2] at p1
            obtain ⟨_, _, _, q1⟩ := oh_of h he
            obtain ⟨_, _, _, q2⟩ := oh_of h hk
            have : oh s k = oh s e := by omega
            exact hke (by rw [← q1, ← q2, this])
          · exact anc_parent hv h hk htk h1 hg
      | false =>
        have hba := back_anc h hk htk
        constructor
        · intro h1
          by_cases hle : at_ s.hei (go_ es s e) ≤ at_ s.hei (go_ es s k)
          · exact anc_cmp hv h hfn hwn h1 hba hle
          · exfalso
            have h5 : Lo.ht es s k = at_ s.hei (go_ es s k) := rfl
            have h6 : hf es s e = at_ s.hei (fr es s e) := rfl
            by_cases hfw : go_ es s e = fr es s k
            · refine hno ⟨k, hk, hfw.symm, ?_⟩
              rw [low_back hv h hk htk]
              omega
            · obtain ⟨j, hj, htj, hfj, haj⟩ := child_of h hfn h1 hfw
              refine hno ⟨j, hj, hfj, ?_⟩
              have hmem : k ∈ rets es s j := by
                rw [mem_rets_tree htj]
                refine ⟨hk, htk, ?_, haj⟩
                have : hf es s j = at_ s.hei (go_ es s e) := by unfold hf; rw [hfj]
                omega
              have h7 := (least_le (hf es s j) (hs es s j)).2 _ (List.mem_map.2 ⟨k, hmem, rfl⟩)
              have h8 : low es s j ≤ Lo.ht es s k := h7
              omega
        · exact fun h1 => anc_trans h1 hba
    exact hnw ((hc _ hshut).2 (anc_self h hwn))

/-- An edge whose Low is below where it begins is no bridge. -/
theorem low_conn (hv : Si.Val n es) (h : VF n es s) (he : e < es.length) (hl : low es s e < hf es s e) : Conn es s e (fr es s e) (go_ es s e) := by
  cases ht : tree es s e with
  | false => exact back_conn hv h he ht
  | true =>
    refine (tree_conn hv h he ht).1 ?_
    rw [low_tree hv h he ht] at hl
    rcases least_mem (hf es s e) (((List.range es.length).filter fun k => decide (fr es s k = go_ es s e)).map (low es s)) with h1 | h1
    · omega
    · obtain ⟨k, hk, hk2⟩ := List.mem_map.1 h1
      obtain ⟨hk3, hk4⟩ := List.mem_filter.1 hk
      exact ⟨k, List.mem_range.1 hk3, by simpa using hk4, by omega⟩
end
end Lo
end Go.Proofs.YtalfpbalekbinaaGreat

/-
  How the statements tell a bridge, pure: groups that are joined along all edges but one, till nothing changes.
-/
namespace Go.Proofs.YtalfpbalekbinaaGreat
namespace Lo
open Df

/-- The ends of edge k. -/
def eU (es : List (Int × Int)) (k : Nat) : Nat := Cs.fr es (2 * k)
def eV (es : List (Int × Int)) (k : Nat) : Nat := Cs.to es (2 * k)

section
variable {n : Nat} {es : List (Int × Int)} {s : St} {e : Nat}

theorem ends_two (h : VF n es s) {k : Nat} (hk : k < es.length) : (fr es s k = eU es k ∧ go_ es s k = eV es k) ∨ (fr es s k = eV es k ∧ go_ es s k = eU es k) := by
  obtain ⟨_, h2, _, _⟩ := oh_of h hk
  obtain ⟨p, hp⟩ : ∃ p, es[k]? = some p := ⟨_, List.getElem?_eq_getElem hk⟩
  obtain ⟨e1, e2⟩ := Cs.fr_even hp
  obtain ⟨e3, e4⟩ := Cs.fr_odd hp
  unfold fr go_ eU eV
  rcases h2 with h2 | h2
  · rw [h2]; exact .inl ⟨rfl, rfl⟩
  · rw [h2, e3, e4, e1, e2]; exact .inr ⟨rfl, rfl⟩

theorem shut_ends (h : VF n es s) {S : Nat → Prop} : Shut es s e S ↔ ∀ k, k < es.length → k ≠ e → (S (eU es k) ↔ S (eV es k)) := by
  constructor
  · intro hS k hk hke
    rcases ends_two h hk with ⟨e1, e2⟩ | ⟨e1, e2⟩
    · rw [← e1, ← e2]; exact hS k hk hke
    · rw [← e1, ← e2]; exact (hS k hk hke).symm
  · intro hS k hk hke
    rcases ends_two h hk with ⟨e1, e2⟩ | ⟨e1, e2⟩
    · rw [e1, e2]; exact hS k hk hke
    · rw [e1, e2]; exact (hS k hk hke).symm

theorem Conn.symm {a b : Nat} (h : Conn es s e a b) : Conn es s e b a := fun S hS => (h S hS).symm
theorem Conn.trans {a b c : Nat} (h : Conn es s e a b) (h' : Conn es s e b c) : Conn es s e a c := fun S hS => (h S hS).trans (h' S hS)
theorem Conn.refl (a : Nat) : Conn es s e a a := fun _ _ => Iff.rfl
theorem conn_edge (h : VF n es s) {k : Nat} (hk : k < es.length) (hke : k ≠ e) : Conn es s e (eU es k) (eV es k) := fun _ hS => (shut_ends h).1 hS k hk hke

/-- A label is a vertex that hangs together with it. -/
structure Lab (n : Nat) (es : List (Int × Int)) (s : St) (e : Nat) (l : List Int) : Prop where
  len : l.length = n
  lab : ∀ u, u < n → ∃ g : Nat, g < n ∧ at_ l u = (g : Int) ∧ Conn es s e u g

theorem at_set2 {l : List Int} {v : Nat} (hv : v < l.length) (x : Int) (u : Nat) : at_ (l.set v x) u = if u = v then x else at_ l u := by
  unfold at_
  rw [List.getD_eq_getElem?_getD, List.getElem?_set]
  by_cases e : v = u
  · rw [if_pos e, if_pos hv, if_pos e.symm]; rfl
  · rw [if_neg e, if_neg (fun h => e h.symm), List.getD_eq_getElem?_getD]

theorem Lab.start {l : List Int} (hl : l.length = n) (h : ∀ u, u < n → at_ l u = (u : Int)) : Lab n es s e l := ⟨hl, fun u hu => ⟨u, hu, h u hu, Conn.refl u⟩⟩

/-- Two groups become one. -/
theorem Lab.join {l : List Int} (h : VF n es s) (L : Lab n es s e l) {k : Nat} (hk : k < es.length) (hke : k ≠ e) (hU : eU es k < n) (hV : eV es k < n) : Lab n es s e ((l.set (eU es k) (min (at_ l (eU es k)) (at_ l (eV es k)))).set (eV es k) (min (at_ l (eU es k)) (at_ l (eV es k)))) := by
  obtain ⟨g1, h1, e1, c1⟩ := L.lab _ hU
  obtain ⟨g2, h2, e2, c2⟩ := L.lab _ hV
  have ce := conn_edge (e := e) h hk hke
  obtain ⟨g, hg, eg, cU, cV⟩ : ∃ g : Nat, g < n ∧ min (at_ l (eU es k)) (at_ l (eV es k)) = (g : Int) ∧ Conn es s e (eU es k) g ∧ Conn es s e (eV es k) g := by
    rw [e1, e2]
    by_cases hm : g1 ≤ g2
    · exact ⟨g1, h1, by omega, c1, ce.symm.trans c1⟩
    · exact ⟨g2, h2, by omega, ce.trans c2, c2⟩
  rw [eg]
  refine ⟨by simp [L.len], fun u hu => ?_⟩
  rw [at_set2 (by rw [List.length_set, L.len]; exact hV), at_set2 (by rw [L.len]; exact hU)]
  by_cases hu1 : u = eV es k
  · rw [if_pos hu1]
    exact ⟨g, hg, rfl, by rw [hu1]; exact cV⟩
  · rw [if_neg hu1]
    by_cases hu2 : u = eU es k
    · rw [if_pos hu2]
      exact ⟨g, hg, rfl, by rw [hu2]; exact cU⟩
    · rw [if_neg hu2]
      exact L.lab u hu

/-- Nothing changes any more: the labels tell who hangs together. -/
theorem Lab.done {l : List Int} (h : VF n es s) (L : Lab n es s e l) (hall : ∀ k, k < es.length → k ≠ e → at_ l (eU es k) = at_ l (eV es k)) {a b : Nat} (ha : a < n) (hb : b < n) : at_ l a = at_ l b ↔ Conn es s e a b := by
  constructor
  · intro heq
    obtain ⟨g1, _, e1, c1⟩ := L.lab a ha
    obtain ⟨g2, _, e2, c2⟩ := L.lab b hb
    obtain rfl : g1 = g2 := by omega
    exact c1.trans c2.symm
  · intro hc
    have := (hc (fun u => at_ l u = at_ l a) ((shut_ends h).2 fun k hk hke => by rw [hall k hk hke])).1 rfl
    exact this.symm

/-- The sum of the labels. -/
def sm : List Int → Nat
  | [] => 0
  | x :: l => x.toNat + sm l
theorem sm_set : ∀ (l : List Int) (v : Nat) (x : Int), v < l.length → sm (l.set v x) + (at_ l v).toNat = sm l + x.toNat
  | [], v, x, h => by simp at h
  | y :: l, 0, x, _ => by
    show x.toNat + sm l + y.toNat = y.toNat + sm l + x.toNat
    omega
  | y :: l, v + 1, x, h => by
    have ih := sm_set l v x (by simpa using h)
    show y.toNat + sm (l.set v x) + (at_ l v).toNat = y.toNat + sm l + x.toNat
    omega

/-- To join two groups makes the sum less. -/
theorem sm_join {l : List Int} {u v : Nat} (huv : u ≠ v) (hu : u < l.length) (hv : v < l.length) (h0 : 0 ≤ at_ l u) (h1 : 0 ≤ at_ l v) (hne : at_ l u ≠ at_ l v) : sm ((l.set u (min (at_ l u) (at_ l v))).set v (min (at_ l u) (at_ l v))) < sm l := by
  have e1 := sm_set l u (min (at_ l u) (at_ l v)) hu
  have e2 := sm_set (l.set u (min (at_ l u) (at_ l v))) v (min (at_ l u) (at_ l v)) (by rw [List.length_set]; exact hv)
  rw [at_set2 hu, if_neg (fun h => huv h.symm)] at e2
  omega
end
end Lo
end Go.Proofs.YtalfpbalekbinaaGreat

/-
  Blocks, pure: what hangs together without a vertex; the heads of blocks by lowpoints; edges of one head are joined again and again.
-/
namespace Go.Proofs.YtalfpbalekbinaaGreat
namespace Bl
open Df Lo

/-- No edge that does not end at v leads out of S, or in. -/
def ShutV (es : List (Int × Int)) (s : St) (v : Nat) (S : Nat → Prop) : Prop := ∀ k, k < es.length → fr es s k ≠ v → go_ es s k ≠ v → (S (fr es s k) ↔ S (go_ es s k))
/-- Without v there is a path from a to b. -/
def ConnV (es : List (Int × Int)) (s : St) (v a b : Nat) : Prop := ∀ S, ShutV es s v S → (S a ↔ S b)

section
variable {n : Nat} {es : List (Int × Int)} {s : St} {v : Nat}

theorem way_connV (h : VF n es s) {S : Nat → Prop} (hS : ShutV es s v S) {a : Nat} (hav : a ≠ v) : ∀ (X : List Int) (Y : List Int) (u : Nat), (∀ x ∈ (u : Int) :: X, ∃ z : Nat, z < n ∧ x = (z : Int)) → IsWay es s ((u : Int) :: X ++ (a : Int) :: Y) → (∀ x ∈ (u : Int) :: X, x ≠ (v : Int)) → (S u ↔ S a)
  | [], Y, u, hr, hw, hne => by
    obtain ⟨z, hz, hzu⟩ := hr u List.mem_cons_self
    have hup : Df.up es s u = (a : Int) := hw.2.1
    obtain ⟨k, hk, htk, hgk, hfk⟩ := hang_edge h (x := u) (by omega) hup (by omega)
    have huv := hne u List.mem_cons_self
    have := hS k hk (by omega) (by omega)
    rw [hgk, show fr es s k = a by omega] at this
    exact this.symm
  | y :: X, Y, u, hr, hw, hne => by
    obtain ⟨z, hz, hzu⟩ := hr u List.mem_cons_self
    obtain ⟨q, hq, rfl⟩ := hr y (List.mem_cons_of_mem _ List.mem_cons_self)
    have hup : Df.up es s u = (q : Int) := hw.2.1
    obtain ⟨k, hk, htk, hgk, hfk⟩ := hang_edge h (x := u) (by omega) hup (by omega)
    have huv := hne u List.mem_cons_self
    have hqv := hne q (List.mem_cons_of_mem _ List.mem_cons_self)
    have h1 := hS k hk (by omega) (by omega)
    rw [hgk, show fr es s k = q by omega] at h1
    have h2 := way_connV h hS hav X Y q (fun x hx => hr x (List.mem_cons_of_mem _ hx)) hw.2.2 (fun x hx => hne x (List.mem_cons_of_mem _ hx))
    exact h1.symm.trans h2

/-- A way from a vertex up is without doubles, and of vertices. -/
theorem way_up (h : VF n es s) {u : Nat} (hu : u < n) : ∃ Y, IsWay es s ((u : Int) :: Y) ∧ ((u : Int) :: Y).Nodup ∧ ∀ x ∈ (u : Int) :: Y, ∃ z : Nat, z < n ∧ x = (z : Int) := by
  obtain ⟨⟨W, B⟩, hs'⟩ := h.side
  obtain ⟨Y, hw, _, hr⟩ := way_of (es := es) h.once hs' hu
  obtain ⟨b, hb, eb⟩ := h.once.onto hu
  obtain ⟨_, ⟨Y', hY'⟩, hw', _, hnd⟩ := (side_inv h.once n (Nat.le_refl _) W B hs').hist b hb
  rw [eb] at hY'
  rw [hY'] at hw' hnd
  have he := IsWay.unique hw hw' rfl
  refine ⟨Y, hw, by rw [he]; exact hnd, fun x hx => ?_⟩
  rcases List.mem_cons.1 hx with rfl | hx
  · exact ⟨u, hu, rfl⟩
  · exact hr x hx

/-- From u up to a vertex above it, if v does not stand between. -/
theorem up_connV (h : VF n es s) {S : Nat → Prop} (hS : ShutV es s v S) {a u : Nat} (hu : u < n) (ha : Anc es s a u) (hne : ∀ x : Nat, Anc es s a x → Anc es s x u → x ≠ v) : S u ↔ S a := by
  obtain ⟨Y, hw, hnd, hr⟩ := way_up h hu
  have hm := (Anc.iff hw).1 ha
  obtain ⟨X, Z, hXZ⟩ := List.append_of_mem hm
  have haa : Anc es s a a := by
    have hw2 := hw
    rw [hXZ] at hw2
    exact ⟨Z, hw2.tail, by simp⟩
  have hav : a ≠ v := hne a haa ha
  cases X with
  | nil =>
    have : (u : Int) = (a : Int) := by
      simp at hXZ
      omega
    rw [show u = a by omega]
  | cons x0 X =>
    have hx0 : x0 = (u : Int) := by
      simp at hXZ
      exact hXZ.1.symm
    subst hx0
    have hw2 := hw
    rw [hXZ] at hw2
    refine way_connV h hS hav X Z u (fun x hx => hr x (by rw [hXZ]; exact List.mem_append_left _ hx)) hw2 (fun x hx e1 => ?_)
    obtain ⟨X1, X2, hX12⟩ := List.append_of_mem hx
    have hway : IsWay es s (x :: (X2 ++ (a : Int) :: Z)) := by
      have hw3 := hw2
      rw [hX12, List.append_assoc] at hw3
      exact hw3.tail
    rw [e1] at hway hX12
    exact hne v ⟨_, hway, by simp⟩ ⟨Y, hw, by rw [hXZ, hX12]; simp⟩ rfl

/-- Two that are above each other are one. -/
theorem anc_antisymm (hv : Si.Val n es) (h : VF n es s) {a b : Nat} (han : a < n) (hbn : b < n) (h1 : Anc es s a b) (h2 : Anc es s b a) : a = b := by
  by_cases e : a = b
  · exact e
  · have := anc_height hv h.once h.hang h.side hbn e h1
    have := anc_height hv h.once h.hang h.side han (fun e' => e e'.symm) h2
    omega

/-- Of two that are above one vertex at one height: they are one. -/
theorem anc_same (hv : Si.Val n es) (h : VF n es s) {a c u : Nat} (hu : u < n) (han : a < n) (hcn : c < n) (ha : Anc es s a u) (hc : Anc es s c u) (he : at_ s.hei a = at_ s.hei c) : a = c :=
  anc_antisymm hv h han hcn (anc_cmp hv h hu han ha hc (by omega)) (anc_cmp hv h hu hcn hc ha (by omega))

/-- The tree edge to a vertex is one. -/
theorem tree_one (h : VF n es s) {p q : Nat} (hp : p < es.length) (hq : q < es.length) (tp : tree es s p = true) (tq : tree es s q = true) (he : go_ es s p = go_ es s q) : p = q := by
  have h1 := (tree_iff h hp).1 tp
  have h2 := (tree_iff h hq).1 tq
  rw [he, h2] at h1
  have h3 := (oh_of h hp).2.2.2
  have h4 := (oh_of h hq).2.2.2
  have : oh s q = oh s p := by omega
  omega

/-- A tree edge with which a block begins: nothing below it leads above where it begins. -/
def head (es : List (Int × Int)) (s : St) (e : Nat) : Prop := tree es s e = true ∧ hf es s e ≤ low es s e

/-- The head of an edge's block. -/
inductive HD (es : List (Int × Int)) (s : St) : Nat → Nat → Prop
  | self {e : Nat} : e < es.length → head es s e → HD es s e e
  | up {k p e : Nat} : k < es.length → ¬ head es s k → p < es.length → tree es s p = true → go_ es s p = fr es s k → HD es s p e → HD es s k e

theorem HD.lt {k e : Nat} (h : HD es s k e) : k < es.length ∧ e < es.length ∧ head es s e := by
  induction h with
  | self h1 h2 => exact ⟨h1, h1, h2⟩
  | up h1 _ _ _ _ _ ih => exact ⟨h1, ih.2⟩

theorem HD.unique (h : VF n es s) {k e e' : Nat} (h1 : HD es s k e) (h2 : HD es s k e') : e = e' := by
  induction h1 with
  | self a b =>
    cases h2 with
    | self => rfl
    | up _ nb => exact absurd b nb
  | up a nb hp tp gp _ ih =>
    cases h2 with
    | self _ b => exact absurd b nb
    | up _ _ hq tq gq h3 =>
      have := tree_one h hp hq tp tq (gp.trans gq.symm)
      subst this
      exact ih h3

/-- An edge that is no head begins at a vertex that hangs by an edge. -/
theorem above_of (hv : Si.Val n es) (h : VF n es s) {k : Nat} (hk : k < es.length) (hn : ¬ head es s k) : ∃ p, p < es.length ∧ tree es s p = true ∧ go_ es s p = fr es s k := by
  obtain ⟨hfn, hgn⟩ := ends_lt hv h hk
  have hpos : 0 < at_ s.hei (fr es s k) := by
    cases ht : tree es s k with
    | true =>
      have h1 : low es s k < hf es s k := by
        by_cases hl : hf es s k ≤ low es s k
        · exact absurd ⟨ht, hl⟩ hn
        · omega
      have h2 := low_nonneg hv h hk
      unfold hf at h1
      omega
    | false =>
      have h1 := back_up hv h hk ht
      have h2 := rooted_of hv h.once h.hang h.side _ hgn
      unfold Lo.ht hf at h1
      omega
  rcases (h.hang (fr es s k) hfn).cases hv with ⟨_, _, h0⟩ | ⟨u, hun, hup, _, _⟩
  · omega
  · obtain ⟨p, hp, tp, gp, _⟩ := hang_edge h hfn hup (by omega)
    exact ⟨p, hp, tp, gp⟩

theorem HD.total (hv : Si.Val n es) (h : VF n es s) : ∀ (d : Nat) (k : Nat), k < es.length → at_ s.hei (fr es s k) ≤ (d : Int) → ∃ e, HD es s k e := by
  intro d
  induction d with
  | zero =>
    intro k hk hd
    by_cases hh : head es s k
    · exact ⟨k, .self hk hh⟩
    · obtain ⟨p, hp, tp, gp⟩ := above_of hv h hk hh
      have h1 := (tree_up hv h hp tp).2
      have h2 := rooted_of hv h.once h.hang h.side _ (ends_lt hv h hp).1
      unfold Lo.ht hf at h1
      rw [gp] at h1
      omega
  | succ d ih =>
    intro k hk hd
    by_cases hh : head es s k
    · exact ⟨k, .self hk hh⟩
    · obtain ⟨p, hp, tp, gp⟩ := above_of hv h hk hh
      have h1 := (tree_up hv h hp tp).2
      unfold Lo.ht hf at h1
      rw [gp] at h1
      obtain ⟨e, he⟩ := ih p hp (by omega)
      exact ⟨e, .up hk hh hp tp gp he⟩
end
end Bl
end Go.Proofs.YtalfpbalekbinaaGreat

/-
  Blocks, pure: edges that meet and whose other ends hang together without that vertex have one head, and such steps lead from every edge to its head.
-/
namespace Go.Proofs.YtalfpbalekbinaaGreat
namespace Bl
open Df Lo

/-- An edge ends at v; its other end. -/
def endAt (es : List (Int × Int)) (s : St) (i v : Nat) : Prop := fr es s i = v ∨ go_ es s i = v
def oth (es : List (Int × Int)) (s : St) (i v : Nat) : Nat := if fr es s i = v then go_ es s i else fr es s i
/-- Two edges that meet, on one cycle. -/
def Pair (es : List (Int × Int)) (s : St) (i k : Nat) : Prop := ∃ v, endAt es s i v ∧ endAt es s k v ∧ ConnV es s v (oth es s i v) (oth es s k v)

section
variable {n : Nat} {es : List (Int × Int)} {s : St} {v : Nat}

theorem not_below (hv : Si.Val n es) (h : VF n es s) {p : Nat} (hp : p < es.length) (tp : tree es s p = true) : ¬ Anc es s (go_ es s p) (fr es s p) := fun ha => by
  have := anc_height hv h.once h.hang h.side (ends_lt hv h hp).1 (ends_ne hv h hp) ha
  have h2 := (tree_up hv h hp tp).2
  unfold Lo.ht hf at h2
  omega

/-- An edge that is no head, and the edge by which its beginning hangs. -/
theorem up_pair (hv : Si.Val n es) (h : VF n es s) {k p : Nat} (hk : k < es.length) (hn : ¬ head es s k) (hp : p < es.length) (tp : tree es s p = true) (gp : go_ es s p = fr es s k) : ConnV es s (fr es s k) (go_ es s k) (fr es s p) := by
  intro S hS
  obtain ⟨hkf, hkg⟩ := ends_lt hv h hk
  obtain ⟨hpf, hpg⟩ := ends_lt hv h hp
  have hnb := not_below hv h hp tp
  rw [gp] at hnb
  -- from the upper end of p up to any vertex above
  have hup : ∀ a : Nat, Anc es s a (fr es s p) → (S (fr es s p) ↔ S a) := fun a ha => up_connV h hS hpf ha (fun x _ hx e => hnb (by rw [← e]; exact hx))
  have hpar : ∀ a : Nat, Anc es s a (fr es s k) → a ≠ fr es s k → Anc es s a (fr es s p) := fun a ha hne => anc_parent hv h hp tp (by rw [gp]; exact ha) (by rw [gp]; exact hne)
  cases tk : tree es s k with
  | false =>
    have hba := back_anc h hk tk
    exact (hup _ (hpar _ hba (ends_ne hv h hk))).symm
  | true =>
    have hlow : low es s k < hf es s k := by
      by_cases hl : hf es s k ≤ low es s k
      · exact absurd ⟨tk, hl⟩ hn
      · omega
    rcases least_mem (hf es s k) (hs es s k) with h2 | h2
    · have h3 : low es s k = hf es s k := h2
      omega
    · obtain ⟨b, hb, hb2⟩ := List.mem_map.1 h2
      have hb3 : Lo.ht es s b = low es s k := hb2
      obtain ⟨b1, b2, b3, b4⟩ := (mem_rets_tree tk).1 hb
      obtain ⟨hbf, hbg⟩ := ends_lt hv h b1
      have hkh := (tree_up hv h hk tk).2
      have hnk := not_below hv h hk tk
      -- v stands above the lower end: no vertex from there down is v
      have hne : ∀ x : Nat, Anc es s (go_ es s k) x → x ≠ fr es s k := fun x hx e => hnk (by rw [← e]; exact hx)
      have h4 : S (fr es s b) ↔ S (go_ es s k) := up_connV h hS hbf b4 (fun x hx _ => hne x hx)
      have hbgv : go_ es s b ≠ fr es s k := fun e => by
        have : Lo.ht es s b = hf es s k := by unfold Lo.ht hf; rw [e]
        omega
      have h5 := hS b b1 (hne _ b4) hbgv
      have hbb := back_anc h b1 b2
      have hkb : Anc es s (fr es s k) (fr es s b) := anc_trans (child_anc hv h hk tk) b4
      have hab : Anc es s (go_ es s b) (fr es s k) := anc_cmp hv h hbf hbg hbb hkb (by unfold Lo.ht hf at b3; omega)
      have h6 := hup _ (hpar _ hab hbgv)
      exact h4.symm.trans (h5.trans h6.symm)

/-- What is one on pairs is one from an edge to its head. -/
theorem HD.joined (hv : Si.Val n es) (h : VF n es s) {α : Type} {f : Nat → α} (hf : ∀ i k, i < es.length → k < es.length → Pair es s i k → f i = f k) {k e : Nat} (hk : HD es s k e) : f k = f e := by
  induction hk with
  | self => rfl
  | @up k p e hk hn hp tp gp _ ih =>
    rw [← ih]
    refine hf k p hk hp ⟨fr es s k, .inl rfl, .inr gp, ?_⟩
    have hpn : fr es s p ≠ fr es s k := fun e => by
      have := ends_ne hv h hp
      omega
    unfold oth
    rw [if_pos rfl, if_neg hpn]
    exact up_pair hv h hk hn hp tp gp

/-- What lies below a head is shut off by where it begins. -/
theorem head_shut (hv : Si.Val n es) (h : VF n es s) {c : Nat} (hc : c < es.length) (hh : head es s c) : ShutV es s (fr es s c) (fun x => Anc es s (go_ es s c) x) := by
  intro k hk hkf hkg
  obtain ⟨hfn, hgn⟩ := ends_lt hv h hk
  obtain ⟨hcf, hcg⟩ := ends_lt hv h hc
  have hch := (tree_up hv h hc hh.1).2
  cases tk : tree es s k with
  | true =>
    constructor
    · exact fun ha => anc_trans ha (child_anc hv h hk tk)
    · intro ha
      by_cases e : go_ es s c = go_ es s k
      · have := tree_one h hc hk hh.1 tk e
        rw [this] at hkf
        exact absurd rfl hkf
      · exact anc_parent hv h hk tk ha e
  | false =>
    have hba := back_anc h hk tk
    constructor
    · intro ha
      by_cases hle : at_ s.hei (go_ es s c) ≤ at_ s.hei (go_ es s k)
      · exact anc_cmp hv h hfn hcg ha hba hle
      · exfalso
        have hcv : Anc es s (fr es s c) (fr es s k) := anc_trans (child_anc hv h hc hh.1) ha
        by_cases hl : Lo.ht es s k < hf es s c
        · have hm : k ∈ rets es s c := (mem_rets_tree hh.1).2 ⟨hk, tk, hl, ha⟩
          have h1 := (least_le (hf es s c) (hs es s c)).2 (Lo.ht es s k) (List.mem_map.2 ⟨k, hm, rfl⟩)
          have h2 : low es s c ≤ Lo.ht es s k := h1
          have h3 := hh.2
          omega
        · unfold Lo.ht hf at hl hch
          exact hkg (anc_same hv h hfn hgn hcf hba hcv (by omega))
    · exact fun ha => anc_trans ha hba

/-- All edges on the way from a child of v down to x, where a back edge leads from x to v, have one head. -/
theorem chain (hv : Si.Val n es) (h : VF n es s) {i c e : Nat} (hi : i < es.length) (ti : tree es s i = false) (hc : c < es.length) (tc : tree es s c = true) (hcv : fr es s c = go_ es s i) (he : HD es s c e) :
    ∀ (d : Nat) (p : Nat), p < es.length → tree es s p = true → Anc es s (go_ es s c) (go_ es s p) → Anc es s (go_ es s p) (fr es s i) → at_ s.hei (go_ es s p) ≤ (d : Int) → HD es s p e := by
  obtain ⟨hcf, hcg⟩ := ends_lt hv h hc
  have hch := (tree_up hv h hc tc).2
  have hr := rooted_of hv h.once h.hang h.side
  intro d
  induction d with
  | zero =>
    intro p hp tp _ _ hd
    have h1 := (tree_up hv h hp tp).2
    have h2 := hr _ (ends_lt hv h hp).1
    unfold Lo.ht hf at h1
    omega
  | succ d ih =>
    intro p hp tp ha hb hd
    obtain ⟨hpf, hpg⟩ := ends_lt hv h hp
    have h1 := (tree_up hv h hp tp).2
    by_cases e1 : go_ es s c = go_ es s p
    · rw [← tree_one h hc hp tc tp e1]
      exact he
    · have ha2 := anc_parent hv h hp tp ha e1
      have hh : at_ s.hei (go_ es s c) ≤ at_ s.hei (fr es s p) := by
        by_cases e2 : go_ es s c = fr es s p
        · rw [e2]; omega
        · have := anc_height hv h.once h.hang h.side hpf e2 ha2
          omega
      have hnh : ¬ head es s p := fun hhd => by
        have hm : i ∈ rets es s p := (mem_rets_tree tp).2 ⟨hi, ti, by unfold Lo.ht hf; unfold Lo.ht hf at hch; rw [← hcv]; omega, hb⟩
        have h2 := (least_le (hf es s p) (hs es s p)).2 (Lo.ht es s i) (List.mem_map.2 ⟨i, hm, rfl⟩)
        have h3 : low es s p ≤ Lo.ht es s i := h2
        have h4 := hhd.2
        have h5 : Lo.ht es s i < hf es s p := ((mem_rets_tree tp).1 hm).2.2.1
        omega
      obtain ⟨q, hq, tq, gq⟩ := above_of hv h hp hnh
      refine .up hp hnh hq tq gq (ih q hq tq (by rw [gq]; exact ha2) ?_ ?_)
      · rw [gq]
        exact anc_trans (child_anc hv h hp tp) hb
      · unfold Lo.ht hf at h1
        rw [gq]
        omega

/-- A back edge has the head of the child of its end that stands above where it begins. -/
theorem chain_back (hv : Si.Val n es) (h : VF n es s) {i c e : Nat} (hi : i < es.length) (ti : tree es s i = false) (hc : c < es.length) (tc : tree es s c = true) (hcv : fr es s c = go_ es s i) (hw : Anc es s (go_ es s c) (fr es s i)) (he : HD es s c e) : HD es s i e := by
  have hnh : ¬ head es s i := fun hh => by rw [hh.1] at ti; cases ti
  obtain ⟨q, hq, tq, gq⟩ := above_of hv h hi hnh
  obtain ⟨hif, hig⟩ := ends_lt hv h hi
  have hn := (rooted_of hv h.once h.hang h.side _ hif).2.1
  refine .up hi hnh hq tq gq (chain hv h hi ti hc tc hcv he n q hq tq (by rw [gq]; exact hw) (by rw [gq]; exact anc_self h hif) (by rw [gq]; omega))

/-- The head of an edge at v whose other end stands below a head that begins at v. -/
theorem head_in (hv : Si.Val n es) (h : VF n es s) {i c : Nat} (hi : i < es.length) (hc : c < es.length) (hh : head es s c) (ha : endAt es s i (fr es s c)) (hb : Anc es s (go_ es s c) (oth es s i (fr es s c))) : HD es s i c := by
  obtain ⟨hif, hig⟩ := ends_lt hv h hi
  obtain ⟨hcf, hcg⟩ := ends_lt hv h hc
  have hch := (tree_up hv h hc hh.1).2
  have hnb := not_below hv h hc hh.1
  unfold oth at hb
  by_cases e : fr es s i = fr es s c
  · rw [if_pos e] at hb
    cases ti : tree es s i with
    | true =>
      have hih := (tree_up hv h hi ti).2
      have : go_ es s c = go_ es s i := anc_same hv h hig hcg hig hb (anc_self h hig) (by unfold Lo.ht hf at hih hch; rw [e] at hih; omega)
      rw [← tree_one h hc hi hh.1 ti this]
      exact .self hc hh
    | false =>
      have hba := back_anc h hi ti
      rw [e] at hba
      exact absurd (anc_trans hb hba) hnb
  · rw [if_neg e] at hb
    have hg : go_ es s i = fr es s c := ha.resolve_left e
    cases ti : tree es s i with
    | true =>
      have := anc_trans hb (child_anc hv h hi ti)
      rw [hg] at this
      exact absurd this hnb
    | false => exact chain_back hv h hi ti hc hh.1 hg.symm hb (.self hc hh)

/-- The head of an edge at v whose other end stands below no head that begins at v: that of the edge by which v hangs. -/
theorem head_out (hv : Si.Val n es) (h : VF n es s) {i : Nat} (hi : i < es.length) (ha : endAt es s i v) (hb : ∀ c, c < es.length → head es s c → fr es s c = v → ¬ Anc es s (go_ es s c) (oth es s i v)) :
    ∃ p, p < es.length ∧ tree es s p = true ∧ go_ es s p = v ∧ ∀ e, HD es s p e → HD es s i e := by
  obtain ⟨hif, hig⟩ := ends_lt hv h hi
  by_cases e : fr es s i = v
  · have hnh : ¬ head es s i := fun hh => hb i hi hh e (by unfold oth; rw [if_pos e]; exact anc_self h hig)
    obtain ⟨p, hp, tp, gp⟩ := above_of hv h hi hnh
    exact ⟨p, hp, tp, gp.trans e, fun x hx => .up hi hnh hp tp gp hx⟩
  · have hg : go_ es s i = v := ha.resolve_left e
    cases ti : tree es s i with
    | true => exact ⟨i, hi, ti, hg, fun x hx => hx⟩
    | false =>
      have hba := back_anc h hi ti
      obtain ⟨c, hc, tc, fc, hcx⟩ := child_of h hif hba (ends_ne hv h hi)
      have hnh : ¬ head es s c := fun hh => hb c hc hh (fc.trans hg) (by unfold oth; rw [if_neg e]; exact hcx)
      obtain ⟨p, hp, tp, gp⟩ := above_of hv h hc hnh
      refine ⟨p, hp, tp, gp.trans (fc.trans hg), fun x hx => ?_⟩
      exact chain_back hv h hi ti hc tc fc hcx (.up hc hnh hp tp gp hx)

/-- Edges that make a pair have one head. -/
theorem pair_head (hv : Si.Val n es) (h : VF n es s) {i k e e' : Nat} (hi : i < es.length) (hk : k < es.length) (hp : Pair es s i k) (h1 : HD es s i e) (h2 : HD es s k e') : e = e' := by
  obtain ⟨v, a1, a2, hcn⟩ := hp
  by_cases hx : ∃ c, c < es.length ∧ head es s c ∧ fr es s c = v ∧ Anc es s (go_ es s c) (oth es s i v)
  · obtain ⟨c, hc, hh, rfl, hb⟩ := hx
    have hb2 := (hcn _ (head_shut hv h hc hh)).1 hb
    rw [h1.unique h (head_in hv h hi hc hh a1 hb), h2.unique h (head_in hv h hk hc hh a2 hb2)]
  · have n1 : ∀ c, c < es.length → head es s c → fr es s c = v → ¬ Anc es s (go_ es s c) (oth es s i v) := fun c hc hh hf hb => hx ⟨c, hc, hh, hf, hb⟩
    have n2 : ∀ c, c < es.length → head es s c → fr es s c = v → ¬ Anc es s (go_ es s c) (oth es s k v) := fun c hc hh hf hb => by
      subst hf
      exact n1 c hc hh rfl ((hcn _ (head_shut hv h hc hh)).2 hb)
    obtain ⟨p, hp, tp, gp, r1⟩ := head_out hv h hi a1 n1
    obtain ⟨q, hq, tq, gq, r2⟩ := head_out hv h hk a2 n2
    have := tree_one h hp hq tp tq (gp.trans gq.symm)
    subst this
    obtain ⟨x, hx'⟩ := HD.total hv h n p hp (by have := (rooted_of hv h.once h.hang h.side _ (ends_lt hv h hp).1).2.1; omega)
    rw [h1.unique h (r1 x hx'), h2.unique h (r2 x hx')]

open Classical in
/-- What pairs make, again and again, is just what has one head. -/
theorem blocks_iff (hv : Si.Val n es) (h : VF n es s) {i k e e' : Nat} (h1 : HD es s i e) (h2 : HD es s k e') : e = e' ↔ ∀ f : Nat → Nat, (∀ a b, a < es.length → b < es.length → Pair es s a b → f a = f b) → f i = f k := by
  constructor
  · rintro rfl f hf
    rw [h1.joined hv h hf, h2.joined hv h hf]
  · intro hall
    let f : Nat → Nat := fun a => if hx : ∃ x, HD es s a x then Classical.choose hx else 0
    have hfa : ∀ {a x : Nat}, HD es s a x → f a = x := fun {a x} hx => by
      have hex : ∃ x, HD es s a x := ⟨x, hx⟩
      show (if hx : ∃ x, HD es s a x then Classical.choose hx else 0) = x
      rw [dif_pos hex]
      exact (Classical.choose_spec hex).unique h hx
    have := hall f (fun a b ha hb hp => by
      obtain ⟨x, hx⟩ := HD.total hv h n a ha (by have := (rooted_of hv h.once h.hang h.side _ (ends_lt hv h ha).1).2.1; omega)
      obtain ⟨y, hy⟩ := HD.total hv h n b hb (by have := (rooted_of hv h.once h.hang h.side _ (ends_lt hv h hb).1).2.1; omega)
      rw [hfa hx, hfa hy]
      exact pair_head hv h ha hb hp hx hy)
    rw [hfa h1, hfa h2] at this
    exact this
end
end Bl
end Go.Proofs.YtalfpbalekbinaaGreat
