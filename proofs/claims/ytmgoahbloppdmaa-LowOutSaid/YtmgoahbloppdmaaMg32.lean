import Derived.Test.YtmgoahbloppdmaaMg31
/-
  Bridges, pure (P8.2): which edges are none.
-/
namespace Go.Proofs.Ytmgoahbloppdmaa
namespace Lo
open Df
section
variable {n : Nat} {es : List (Int × Int)} {s : St} {e : Nat}

/-- Of two that are above one vertex the higher is above the other. -/
theorem anc_cmp (hv : Si.Val n es) (h : VF n es s) {a c u : Nat} (hu : u < n) (han : a < n) (ha : Anc es s a u) (hc : Anc es s c u) (hle : at_ s.hei a ≤ at_ s.hei c) : Anc es s a c := by
  obtain ⟨⟨W, B⟩, hs'⟩ := h.side
  obtain ⟨Y, hw, _, _⟩ := way_of (es := es) h.once hs' hu
  have hma := (Anc.iff hw).1 ha
  obtain ⟨X, Z, hXZ⟩ := List.append_of_mem ((Anc.iff hw).1 hc)
  rw [hXZ] at hma hw
  rcases List.mem_append.1 hma with h1 | h1
  · obtain ⟨X1, X2, hX⟩ := List.append_of_mem h1
    have hw2 := hw
    rw [hX, List.append_assoc] at hw2
    have hca : Anc es s c a := ⟨_, hw2.tail, by simp⟩
    by_cases hac : c = a
    · rw [hac]
      exact anc_self h han
    · have := anc_height hv h.once h.hang h.side han hac hca
      omega
  · exact ⟨_, hw.tail, h1⟩

theorem child_anc (hv : Si.Val n es) (h : VF n es s) (he : e < es.length) (ht : tree es s e = true) : Anc es s (fr es s e) (go_ es s e) := by
  obtain ⟨hup, _⟩ := tree_up hv h he ht
  obtain ⟨⟨W, B⟩, hs'⟩ := h.side
  obtain ⟨Y, hw, _, _⟩ := way_of (es := es) h.once hs' (ends_lt hv h he).2
  exact anc_child hw List.mem_cons_self hup (by omega)

/-- Who is above the lower end, and not it, is above the upper. -/
theorem anc_parent (hv : Si.Val n es) (h : VF n es s) (he : e < es.length) (ht : tree es s e = true) {a : Nat} (ha : Anc es s a (go_ es s e)) (hne : a ≠ go_ es s e) : Anc es s a (fr es s e) := by
  obtain ⟨hup, _⟩ := tree_up hv h he ht
  obtain ⟨⟨W, B⟩, hs'⟩ := h.side
  obtain ⟨Y, hw, _, _⟩ := way_of (es := es) h.once hs' (ends_lt hv h he).2
  have hm := (Anc.iff hw).1 ha
  rcases List.mem_cons.1 hm with e1 | hm
  · omega
  · cases Y with
    | nil => simp at hm
    | cons y Y =>
      have h1 := hw.2.1
      rw [hup] at h1
      have hy : (fr es s e : Int) = y := by simpa using h1
      subst hy
      exact ⟨Y, hw.2.2, hm⟩

/-- The ends of a back edge hang together without it. -/
theorem back_conn (hv : Si.Val n es) (h : VF n es s) (he : e < es.length) (hb : tree es s e = false) : Conn es s e (fr es s e) (go_ es s e) := fun S hS =>
  up_conn h hS (ends_lt hv h he).1 (back_anc h he hb) (fun ht => by rw [hb] at ht; cases ht)

/-- A tree edge is no bridge just if what goes on from its lower end leads back to where it begins, or above. -/
theorem tree_conn (hv : Si.Val n es) (h : VF n es s) (he : e < es.length) (ht : tree es s e = true) : (∃ k, k < es.length ∧ fr es s k = go_ es s e ∧ low es s k ≤ hf es s e) ↔ Conn es s e (fr es s e) (go_ es s e) := by
  obtain ⟨hup, hht⟩ := tree_up hv h he ht
  obtain ⟨hvn, hwn⟩ := ends_lt hv h he
  have hhw : at_ s.hei (go_ es s e) = at_ s.hei (fr es s e) + 1 := hht
  have hvw := child_anc hv h he ht
  have hnew : go_ es s e ≠ fr es s e := ends_ne hv h he
  have hnw : ¬ Anc es s (go_ es s e) (fr es s e) := fun ha => by
    have := anc_height hv h.once h.hang h.side hvn hnew ha
    omega
  constructor
  · rintro ⟨k, hk, hfk, hlk⟩ S hS
    have hke : k ≠ e := fun e1 => by
      rw [e1] at hfk
      exact hnew hfk.symm
    have hkf : hf es s k = hf es s e + 1 := by
      unfold hf
      rw [hfk]
      exact hhw
    -- from where the lower end is left back up to where e begins
    have hup2 : ∀ a : Nat, Anc es s a (fr es s e) → (S (fr es s e) ↔ S a) := fun a ha => up_conn h hS hvn ha (fun _ x _ _ hxv e1 => hnw (by rw [← e1]; exact hxv))
    cases htk : tree es s k with
    | false =>
      have h1 := hS k hk hke
      rw [hfk] at h1
      have hba := back_anc h hk htk
      rw [hfk] at hba
      have hlow := low_back hv h hk htk
      have hgne : go_ es s k ≠ go_ es s e := fun e1 => by
        have : Lo.ht es s k = at_ s.hei (go_ es s e) := by unfold Lo.ht; rw [e1]
        unfold hf at hlk
        omega
      have h2 := hup2 _ (anc_parent hv h he ht hba hgne)
      exact h2.trans h1.symm
    | true =>
      have h1 := hS k hk hke
      rw [hfk] at h1
      obtain ⟨_, hhk⟩ := tree_up hv h hk htk
      have hne : low es s k < hf es s k := by omega
      rcases least_mem (hf es s k) (hs es s k) with h2 | h2
      · have h3 : low es s k = hf es s k := h2
        omega
      · obtain ⟨b, hb, hb2⟩ := List.mem_map.1 h2
        have hb3 : Lo.ht es s b = low es s k := hb2
        obtain ⟨b1, b2, b3, b4⟩ := (mem_rets_tree htk).1 hb
        have hbe : b ≠ e := fun e1 => by
          rw [e1, ht] at b2
          cases b2
        have hbn := (ends_lt hv h b1).1
        have h3 := hS b b1 hbe
        have h4 : S (fr es s b) ↔ S (go_ es s k) := up_conn h hS hbn b4 (fun _ x hx hxne _ e1 => by
          rw [e1] at hx hxne
          have h5 := anc_height hv h.once h.hang h.side hwn hxne hx
          have h6 : Lo.ht es s k = at_ s.hei (go_ es s k) := rfl
          have h7 : hf es s k = at_ s.hei (go_ es s e) := by unfold hf; rw [hfk]
          omega)
        have hck := child_anc hv h hk htk
        rw [hfk] at hck
        have hvb : Anc es s (fr es s e) (fr es s b) := anc_trans (anc_trans hvw hck) b4
        have hgb := anc_cmp hv h hbn (ends_lt hv h b1).2 (back_anc h b1 b2) hvb (by
          have h5 : Lo.ht es s b = at_ s.hei (go_ es s b) := rfl
          have h6 : hf es s e = at_ s.hei (fr es s e) := rfl
          omega)
        have h5 := hup2 _ hgb
        exact ((h5.trans h3.symm).trans h4).trans h1.symm
  · intro hc
    refine Classical.byContradiction fun hno => ?_
    have hshut : Shut es s e (fun u => Anc es s (go_ es s e) u) := fun k hk hke => by
      obtain ⟨hfn, hgn⟩ := ends_lt hv h hk
      cases htk : tree es s k with
      | true =>
        constructor
        · exact fun h1 => anc_trans h1 (child_anc hv h hk htk)
        · intro h1
          by_cases hg : go_ es s e = go_ es s k
          · exfalso
            have p1 := (tree_iff h he).1 ht
            have p2 := (tree_iff h hk).1 htk
            rw [hg, p2] at p1
            obtain ⟨_, _, _, q1⟩ := oh_of h he
            obtain ⟨_, _, _, q2⟩ := oh_of h hk
            have : oh s k = oh s e := by omega
            exact hke (by rw [← q1, ← q2, this])
          · exact anc_parent hv h hk htk h1 hg
      | false =>
        have hba := back_anc h hk htk
        constructor
        · intro h1
          by_cases hle : at_ s.hei (go_ es s e) ≤ at_ s.hei (go_ es s k)
          · exact anc_cmp hv h hfn hwn h1 hba hle
          · exfalso
            have h5 : Lo.ht es s k = at_ s.hei (go_ es s k) := rfl
            have h6 : hf es s e = at_ s.hei (fr es s e) := rfl
            by_cases hfw : go_ es s e = fr es s k
            · refine hno ⟨k, hk, hfw.symm, ?_⟩
              rw [low_back hv h hk htk]
              omega
            · obtain ⟨j, hj, htj, hfj, haj⟩ := child_of h hfn h1 hfw
              refine hno ⟨j, hj, hfj, ?_⟩
              have hmem : k ∈ rets es s j := by
                rw [mem_rets_tree htj]
                refine ⟨hk, htk, ?_, haj⟩
                have : hf es s j = at_ s.hei (go_ es s e) := by unfold hf; rw [hfj]
                omega
              have h7 := (least_le (hf es s j) (hs es s j)).2 _ (List.mem_map.2 ⟨k, hmem, rfl⟩)
              have h8 : low es s j ≤ Lo.ht es s k := h7
              omega
        · exact fun h1 => anc_trans h1 hba
    exact hnw ((hc _ hshut).2 (anc_self h hwn))

/-- An edge whose Low is below where it begins is no bridge. -/
theorem low_conn (hv : Si.Val n es) (h : VF n es s) (he : e < es.length) (hl : low es s e < hf es s e) : Conn es s e (fr es s e) (go_ es s e) := by
  cases ht : tree es s e with
  | false => exact back_conn hv h he ht
  | true =>
    refine (tree_conn hv h he ht).1 ?_
    rw [low_tree hv h he ht] at hl
    rcases least_mem (hf es s e) (((List.range es.length).filter fun k => decide (fr es s k = go_ es s e)).map (low es s)) with h1 | h1
    · omega
    · obtain ⟨k, hk, hk2⟩ := List.mem_map.1 h1
      obtain ⟨hk3, hk4⟩ := List.mem_filter.1 hk
      exact ⟨k, List.mem_range.1 hk3, by simpa using hk4, by omega⟩
end
end Lo
end Go.Proofs.Ytmgoahbloppdmaa

/-
  How the statements tell a bridge, pure: groups that are joined along all edges but one, till nothing changes.
-/
namespace Go.Proofs.Ytmgoahbloppdmaa
namespace Lo
open Df

/-- The ends of edge k. -/
def eU (es : List (Int × Int)) (k : Nat) : Nat := Cs.fr es (2 * k)
def eV (es : List (Int × Int)) (k : Nat) : Nat := Cs.to es (2 * k)

section
variable {n : Nat} {es : List (Int × Int)} {s : St} {e : Nat}

theorem ends_two (h : VF n es s) {k : Nat} (hk : k < es.length) : (fr es s k = eU es k ∧ go_ es s k = eV es k) ∨ (fr es s k = eV es k ∧ go_ es s k = eU es k) := by
  obtain ⟨_, h2, _, _⟩ := oh_of h hk
  obtain ⟨p, hp⟩ : ∃ p, es[k]? = some p := ⟨_, List.getElem?_eq_getElem hk⟩
  obtain ⟨e1, e2⟩ := Cs.fr_even hp
  obtain ⟨e3, e4⟩ := Cs.fr_odd hp
  unfold fr go_ eU eV
  rcases h2 with h2 | h2
  · rw [h2]; exact .inl ⟨rfl, rfl⟩
  · rw [h2, e3, e4, e1, e2]; exact .inr ⟨rfl, rfl⟩

theorem shut_ends (h : VF n es s) {S : Nat → Prop} : Shut es s e S ↔ ∀ k, k < es.length → k ≠ e → (S (eU es k) ↔ S (eV es k)) := by
  constructor
  · intro hS k hk hke
    rcases ends_two h hk with ⟨e1, e2⟩ | ⟨e1, e2⟩
    · rw [← e1, ← e2]; exact hS k hk hke
    · rw [← e1, ← e2]; exact (hS k hk hke).symm
  · intro hS k hk hke
    rcases ends_two h hk with ⟨e1, e2⟩ | ⟨e1, e2⟩
    · rw [e1, e2]; exact hS k hk hke
    · rw [e1, e2]; exact (hS k hk hke).symm

theorem Conn.symm {a b : Nat} (h : Conn es s e a b) : Conn es s e b a := fun S hS => (h S hS).symm
theorem Conn.trans {a b c : Nat} (h : Conn es s e a b) (h' : Conn es s e b c) : Conn es s e a c := fun S hS => (h S hS).trans (h' S hS)
theorem Conn.refl (a : Nat) : Conn es s e a a := fun _ _ => Iff.rfl
theorem conn_edge (h : VF n es s) {k : Nat} (hk : k < es.length) (hke : k ≠ e) : Conn es s e (eU es k) (eV es k) := fun _ hS => (shut_ends h).1 hS k hk hke

/-- A label is a vertex that hangs together with it. -/
structure Lab (n : Nat) (es : List (Int × Int)) (s : St) (e : Nat) (l : List Int) : Prop where
  len : l.length = n
  lab : ∀ u, u < n → ∃ g : Nat, g < n ∧ at_ l u = (g : Int) ∧ Conn es s e u g

theorem at_set2 {l : List Int} {v : Nat} (hv : v < l.length) (x : Int) (u : Nat) : at_ (l.set v x) u = if u = v then x else at_ l u := by
  unfold at_
  rw [List.getD_eq_getElem?_getD, List.getElem?_set]
  by_cases e : v = u
  · rw [if_pos e, if_pos hv, if_pos e.symm]; rfl
  · rw [if_neg e, if_neg (fun h => e h.symm), List.getD_eq_getElem?_getD]

theorem Lab.start {l : List Int} (hl : l.length = n) (h : ∀ u, u < n → at_ l u = (u : Int)) : Lab n es s e l := ⟨hl, fun u hu => ⟨u, hu, h u hu, Conn.refl u⟩⟩

/-- Two groups become one. -/
theorem Lab.join {l : List Int} (h : VF n es s) (L : Lab n es s e l) {k : Nat} (hk : k < es.length) (hke : k ≠ e) (hU : eU es k < n) (hV : eV es k < n) : Lab n es s e ((l.set (eU es k) (min (at_ l (eU es k)) (at_ l (eV es k)))).set (eV es k) (min (at_ l (eU es k)) (at_ l (eV es k)))) := by
  obtain ⟨g1, h1, e1, c1⟩ := L.lab _ hU
  obtain ⟨g2, h2, e2, c2⟩ := L.lab _ hV
  have ce := conn_edge (e := e) h hk hke
  obtain ⟨g, hg, eg, cU, cV⟩ : ∃ g : Nat, g < n ∧ min (at_ l (eU es k)) (at_ l (eV es k)) = (g : Int) ∧ Conn es s e (eU es k) g ∧ Conn es s e (eV es k) g := by
    rw [e1, e2]
    by_cases hm : g1 ≤ g2
    · exact ⟨g1, h1, by omega, c1, ce.symm.trans c1⟩
    · exact ⟨g2, h2, by omega, ce.trans c2, c2⟩
  rw [eg]
  refine ⟨by simp [L.len], fun u hu => ?_⟩
  rw [at_set2 (by rw [List.length_set, L.len]; exact hV), at_set2 (by rw [L.len]; exact hU)]
  by_cases hu1 : u = eV es k
  · rw [if_pos hu1]
    exact ⟨g, hg, rfl, by rw [hu1]; exact cV⟩
  · rw [if_neg hu1]
    by_cases hu2 : u = eU es k
    · rw [if_pos hu2]
      exact ⟨g, hg, rfl, by rw [hu2]; exact cU⟩
    · rw [if_neg hu2]
      exact L.lab u hu

/-- Nothing changes any more: the labels tell who hangs together. -/
theorem Lab.done {l : List Int} (h : VF n es s) (L : Lab n es s e l) (hall : ∀ k, k < es.length → k ≠ e → at_ l (eU es k) = at_ l (eV es k)) {a b : Nat} (ha : a < n) (hb : b < n) : at_ l a = at_ l b ↔ Conn es s e a b := by
  constructor
  · intro heq
    obtain ⟨g1, _, e1, c1⟩ := L.lab a ha
    obtain ⟨g2, _, e2, c2⟩ := L.lab b hb
    obtain rfl : g1 = g2 := by omega
    exact c1.trans c2.symm
  · intro hc
    have := (hc (fun u => at_ l u = at_ l a) ((shut_ends h).2 fun k hk hke => by rw [hall k hk hke])).1 rfl
    exact this.symm

/-- The sum of the labels. -/
def sm : List Int → Nat
  | [] => 0
  | x :: l => x.toNat + sm l
theorem sm_set : ∀ (l : List Int) (v : Nat) (x : Int), v < l.length → sm (l.set v x) + (at_ l v).toNat = sm l + x.toNat
  | [], v, x, h => by simp at h
  | y :: l, 0, x, _ => by
    show x.toNat + sm l + y.toNat = y.toNat + sm l + x.toNat
    omega
  | y :: l, v + 1, x, h => by
    have ih := sm_set l v x (by simpa using h)
    show y.toNat + sm (l.set v x) + (at_ l v).toNat = y.toNat + sm l + x.toNat
    omega

/-- To join two groups makes the sum less. -/
theorem sm_join {l : List Int} {u v : Nat} (huv : u ≠ v) (hu : u < l.length) (hv : v < l.length) (h0 : 0 ≤ at_ l u) (h1 : 0 ≤ at_ l v) (hne : at_ l u ≠ at_ l v) : sm ((l.set u (min (at_ l u) (at_ l v))).set v (min (at_ l u) (at_ l v))) < sm l := by
  have e1 := sm_set l u (min (at_ l u) (at_ l v)) hu
  have e2 := sm_set (l.set u (min (at_ l u) (at_ l v))) v (min (at_ l u) (at_ l v)) (by rw [List.length_set]; exact hv)
  rw [at_set2 hu, if_neg (fun h => huv h.symm)] at e2
  omega
end
end Lo
end Go.Proofs.Ytmgoahbloppdmaa
