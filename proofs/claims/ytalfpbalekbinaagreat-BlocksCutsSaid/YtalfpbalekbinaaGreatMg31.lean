import Derived.Test.YtalfpbalekbinaaGreatMg30
/-
  Blocks, pure: how many components there are without a vertex's edges, and without an edge.
-/
namespace Go.Proofs.YtalfpbalekbinaaGreat
namespace Bl
open Df Lo

section
variable {n : Nat} {es : List (Int × Int)} {s : St} {v : Nat}

/-- As many classes as there are vertices that stand for themselves. -/
theorem gen_count {js : List (Int × Int)} {m r : Nat → Nat} (hm : Co.Gen n js m) (hr : Co.Meets n js r) (hall : ∀ f, Co.Meets n js f → ∀ x, x < n → f (r x) = f x) (hlt : ∀ x, x < n → r x < n) : cnt (fun a => m a = a) n = cnt (fun a => r a = a) n := by
  have h1 : ∀ x, x < n → m (r x) = m x := hall m hm.meets
  have h2 : ∀ x, x < n → r (m x) = r x := hm.least r hr
  have h3 : ∀ x, x < n → r (r x) = r x := hall r hr
  refine Nat.le_antisymm (cnt_inj (f := r) (fun a ha _ => ⟨hlt a ha, h3 a ha⟩) (fun a b ha hb e1 e2 e => ?_)) (cnt_inj (f := m) (fun a ha _ => ⟨hm.norm.lt ha, hm.norm.idem a ha⟩) (fun a b ha hb e1 e2 e => ?_))
  · rw [← e1, ← e2, ← h1 a ha, ← h1 b hb, e]
  · rw [← e1, ← e2, ← h2 a ha, ← h2 b hb, e]

theorem way_tree (h : VF n es s) {S : Nat → Prop} {a : Nat} : ∀ (X : List Int) (Y : List Int) (u : Nat), (∀ x ∈ (u : Int) :: X, ∃ z : Nat, z < n ∧ x = (z : Int)) → IsWay es s ((u : Int) :: X ++ (a : Int) :: Y) → (∀ t, t < es.length → tree es s t = true → (go_ es s t : Int) ∈ (u : Int) :: X → (S (fr es s t) ↔ S (go_ es s t))) → (S u ↔ S a)
  | [], Y, u, hr, hw, hC => by
    obtain ⟨z, hz, hzu⟩ := hr u List.mem_cons_self
    have hup : Df.up es s u = (a : Int) := hw.2.1
    obtain ⟨k, hk, htk, hgk, hfk⟩ := hang_edge h (x := u) (by omega) hup (by omega)
    have := hC k hk htk (by rw [hgk]; exact List.mem_cons_self)
    rw [hgk, show fr es s k = a by omega] at this
    exact this.symm
  | y :: X, Y, u, hr, hw, hC => by
    obtain ⟨z, hz, hzu⟩ := hr u List.mem_cons_self
    obtain ⟨q, hq, rfl⟩ := hr y (List.mem_cons_of_mem _ List.mem_cons_self)
    have hup : Df.up es s u = (q : Int) := hw.2.1
    obtain ⟨k, hk, htk, hgk, hfk⟩ := hang_edge h (x := u) (by omega) hup (by omega)
    have h1 := hC k hk htk (by rw [hgk]; exact List.mem_cons_self)
    rw [hgk, show fr es s k = q by omega] at h1
    have h2 := way_tree h X Y q (fun x hx => hr x (List.mem_cons_of_mem _ hx)) hw.2.2 (fun t h1 h2 h3 => hC t h1 h2 (List.mem_cons_of_mem _ h3))
    exact h1.symm.trans h2
/-- From u up to a vertex above it, along tree edges. -/
theorem up_tree (h : VF n es s) {S : Nat → Prop} {a u : Nat} (hu : u < n) (ha : Anc es s a u) (hC : ∀ t, t < es.length → tree es s t = true → Anc es s (go_ es s t) u → Anc es s a (go_ es s t) → go_ es s t ≠ a → (S (fr es s t) ↔ S (go_ es s t))) : S u ↔ S a := by
  obtain ⟨Y, hw, hnd, hr⟩ := way_up h hu
  have hm := (Anc.iff hw).1 ha
  obtain ⟨X, Z, hXZ⟩ := List.append_of_mem hm
  cases X with
  | nil =>
    have : (u : Int) = (a : Int) := by
      simp at hXZ
      omega
    rw [show u = a by omega]
  | cons x0 X =>
    have hx0 : x0 = (u : Int) := by
      simp at hXZ
      exact hXZ.1.symm
    subst hx0
    have hw2 := hw
    rw [hXZ] at hw2
    refine way_tree h X Z u (fun x hx => hr x (by rw [hXZ]; exact List.mem_append_left _ hx)) hw2 (fun t h1 h2 hx => ?_)
    obtain ⟨X1, X2, hX12⟩ := List.append_of_mem hx
    have hway : IsWay es s ((go_ es s t : Int) :: (X2 ++ (a : Int) :: Z)) := by
      have hw3 := hw2
      rw [hX12, List.append_assoc] at hw3
      exact hw3.tail
    refine hC t h1 h2 ⟨Y, hw, by rw [hXZ]; exact List.mem_append_left _ hx⟩ ⟨_, hway, by simp⟩ fun e2 => ?_
    rw [hXZ, List.nodup_append] at hnd
    exact hnd.2.2 _ hx (a : Int) List.mem_cons_self (by rw [e2])

/-- The edges that do not end at v. -/
def woE (es : List (Int × Int)) (v : Int) : List (Int × Int) := es.filter fun p => decide (p.1 ≠ v ∧ p.2 ≠ v)
theorem wo_meets (hv : Si.Val n es) (h : VF n es s) {f : Nat → Nat} : Co.Meets n (woE es (v : Int)) f ↔ ∀ k, k < es.length → fr es s k ≠ v → go_ es s k ≠ v → f (fr es s k) = f (go_ es s k) := by
  constructor
  · intro hm k hk h1 h2
    obtain ⟨p, hp⟩ := edge_of hk
    obtain ⟨a1, a2, a3, a4⟩ := ends_at hv hp
    have h3 : eU es k ≠ v ∧ eV es k ≠ v := by
      rcases ends_two h hk with ⟨a, b⟩ | ⟨a, b⟩ <;> rw [a] at h1 <;> rw [b] at h2
      · exact ⟨h1, h2⟩
      · exact ⟨h2, h1⟩
    have := hm p (List.mem_filter.2 ⟨List.mem_of_getElem? hp, by simp; omega⟩) ⟨by omega, by omega⟩ ⟨by omega, by omega⟩
    rw [a1, a2, Int.toNat_natCast, Int.toNat_natCast] at this
    rcases ends_two h hk with ⟨a, b⟩ | ⟨a, b⟩ <;> rw [a, b]
    · exact this
    · exact this.symm
  · intro hm p hp _ _
    obtain ⟨hp, hne⟩ := List.mem_filter.1 hp
    obtain ⟨k, hk⟩ := List.getElem?_of_mem hp
    obtain ⟨a1, a2, a3, a4⟩ := ends_at hv hk
    have hkl := (List.getElem?_eq_some_iff.1 hk).1
    have hne : p.1 ≠ (v : Int) ∧ p.2 ≠ (v : Int) := by simpa using hne
    rw [a1, a2, Int.toNat_natCast, Int.toNat_natCast]
    rcases ends_two h hkl with ⟨a, b⟩ | ⟨a, b⟩
    · rw [← a, ← b]
      exact hm k hkl (by omega) (by omega)
    · rw [← a, ← b]
      exact (hm k hkl (by omega) (by omega)).symm

/-- x stands below a head that begins at v. -/
def underV (es : List (Int × Int)) (s : St) (v x c : Nat) : Prop := c < es.length ∧ head es s c ∧ fr es s c = v ∧ Anc es s (go_ es s c) x
theorem underV.one (hv : Si.Val n es) (h : VF n es s) {x c c' : Nat} (hx : x < n) (h1 : underV es s v x c) (h2 : underV es s v x c') : c = c' := by
  obtain ⟨a1, a2, a3, a4⟩ := h1
  obtain ⟨b1, b2, b3, b4⟩ := h2
  have e1 := (tree_up hv h a1 a2.1).2
  have e2 := (tree_up hv h b1 b2.1).2
  have e3 : Lo.ht es s c = at_ s.hei (go_ es s c) := rfl
  have e4 : Lo.ht es s c' = at_ s.hei (go_ es s c') := rfl
  have e5 : hf es s c = at_ s.hei v := by unfold hf; rw [a3]
  have e6 : hf es s c' = at_ s.hei v := by unfold hf; rw [b3]
  exact tree_one h a1 b1 a2.1 b2.1 (anc_same hv h hx (ends_lt hv h a1).2 (ends_lt hv h b1).2 a4 b4 (by omega))
open Classical in
/-- Who stands for x without v. -/
noncomputable def rv (n : Nat) (es : List (Int × Int)) (s : St) (v x : Nat) : Nat := if x = v then v else if hx : ∃ c, underV es s v x c then go_ es s (Classical.choose hx) else rt n es s x
theorem rv_self : rv n es s v v = v := if_pos rfl
open Classical in
theorem rv_under (hv : Si.Val n es) (h : VF n es s) {x c : Nat} (hx : x < n) (hne : x ≠ v) (hu : underV es s v x c) : rv n es s v x = go_ es s c := by
  have hex : ∃ c, underV es s v x c := ⟨c, hu⟩
  unfold rv
  rw [if_neg hne, dif_pos hex, (Classical.choose_spec hex).one hv h hx hu]
open Classical in
theorem rv_else {x : Nat} (hne : x ≠ v) (hu : ¬ ∃ c, underV es s v x c) : rv n es s v x = rt n es s x := by
  unfold rv
  rw [if_neg hne, dif_neg hu]
theorem rv_meets (hv : Si.Val n es) (h : VF n es s) : Co.Meets n (woE es (v : Int)) (rv n es s v) := by
  rw [wo_meets hv h]
  intro k hk h1 h2
  obtain ⟨hkf, hkg⟩ := ends_lt hv h hk
  have hsh : ∀ c, underV es s v (fr es s k) c ↔ underV es s v (go_ es s k) c := fun c => by
    constructor
    · rintro ⟨a1, a2, a3, a4⟩
      exact ⟨a1, a2, a3, (head_shut hv h a1 a2 k hk (by rw [a3]; exact h1) (by rw [a3]; exact h2)).1 a4⟩
    · rintro ⟨a1, a2, a3, a4⟩
      exact ⟨a1, a2, a3, (head_shut hv h a1 a2 k hk (by rw [a3]; exact h1) (by rw [a3]; exact h2)).2 a4⟩
  by_cases hx : ∃ c, underV es s v (fr es s k) c
  · obtain ⟨c, hc⟩ := hx
    rw [rv_under hv h hkf h1 hc, rv_under hv h hkg h2 ((hsh c).1 hc)]
  · rw [rv_else h1 hx, rv_else h2 (fun ⟨c, hc⟩ => hx ⟨c, (hsh c).2 hc⟩), rt_edge hv h hk]
theorem rv_lt (hv : Si.Val n es) (h : VF n es s) (hvn : v < n) {x : Nat} (hx : x < n) : rv n es s v x < n := by
  by_cases e : x = v
  · rw [e, rv_self]
    exact hvn
  · by_cases hu : ∃ c, underV es s v x c
    · obtain ⟨c, hc⟩ := hu
      rw [rv_under hv h hx e hc]
      exact (ends_lt hv h hc.1).2
    · rw [rv_else e hu]
      exact (rt_of hv h hx).1
theorem rv_conn (hv : Si.Val n es) (h : VF n es s) {f : Nat → Nat} (hf : Co.Meets n (woE es (v : Int)) f) {x : Nat} (hx : x < n) : f (rv n es s v x) = f x := by
  rw [wo_meets hv h] at hf
  by_cases e : x = v
  · rw [e, rv_self]
  have hS : ∀ y, ShutV es s v (fun z => f z = f y) := fun y k hk h1 h2 => by show f _ = f y ↔ f _ = f y; rw [hf k hk h1 h2]
  by_cases hu : ∃ c, underV es s v x c
  · obtain ⟨c, hc⟩ := hu
    rw [rv_under hv h hx e hc]
    obtain ⟨a1, a2, a3, a4⟩ := hc
    have := below_conn hv h a1 a2.1 hx a4
    rw [a3] at this
    exact (this _ (hS x)).1 rfl
  · rw [rv_else e hu]
    obtain ⟨r1, r2, r3⟩ := rt_of hv h hx
    by_cases hav : Anc es s v x
    · have hvn : v < n := by
        obtain ⟨k, hk, _, hfk, _⟩ := child_of h hx hav (fun e' => e e'.symm)
        rw [← hfk]
        exact (ends_lt hv h hk).1
      obtain ⟨c, hc, tc, hfc, hac⟩ := child_of h hx hav (fun e' => e e'.symm)
      have hnh : ¬ head es s c := fun hh => hu ⟨c, hc, hh, hfc, hac⟩
      obtain ⟨p, hp, tp, gp⟩ := above_of hv h hc hnh
      have h1 : f (go_ es s c) = f x := by
        have := below_conn hv h hc tc hx hac
        rw [hfc] at this
        exact (this _ (hS x)).1 rfl
      have h2 : f (fr es s p) = f (go_ es s c) := by
        have := up_pair hv h hc hnh hp tp gp
        rw [hfc] at this
        exact (this _ (hS (go_ es s c))).1 rfl
      have hpf := (ends_lt hv h hp).1
      rw [hfc] at gp
      have hrp : Anc es s (rt n es s x) (fr es s p) := by
        have h3 : rt n es s x = rt n es s (fr es s p) := by
          rw [← rt_anc hv h hvn hx hav, ← gp, ← rt_edge hv h hp]
        rw [h3]
        exact (rt_of hv h hpf).2.2
      have hnb := not_below hv h hp tp
      rw [gp] at hnb
      have h4 := up_connV h (hS (fr es s p)) hpf hrp (fun y _ hy e => hnb (by rw [← e]; exact hy))
      rw [h4.1 rfl, h2, h1]
    · exact (up_connV h (hS x) hx r3 (fun y _ hy e => hav (by rw [← e]; exact hy))).1 rfl
open Classical in
/-- How many components there are without v's edges. -/
theorem wo_count (hv : Si.Val n es) (h : VF n es s) (hvn : v < n) {m m' : Nat → Nat} (hm : Co.Gen n es m) (hm' : Co.Gen n (woE es (v : Int)) m') : cnt (fun a => m' a = a) n = cnt (fun a => m a = a) n + inH es s v := by
  rw [gen_count hm' (rv_meets hv h) (fun f hf x hx => rv_conn hv h hf hx) (fun x hx => rv_lt hv h hvn hx), comps_roots hv h hm, inB_eq hv h]
  -- who stands for itself
  have hfix : ∀ a, a < n → (rv n es s v a = a ↔ (a = v ∨ ((¬ hangs es s a ∧ a ≠ v) ∨ ∃ c, c < es.length ∧ head es s c ∧ fr es s c = v ∧ a = go_ es s c))) := fun a ha => by
    by_cases e : a = v
    · subst e
      exact ⟨fun _ => .inl rfl, fun _ => rv_self⟩
    · by_cases hu : ∃ c, underV es s v a c
      · obtain ⟨c, hc⟩ := hu
        rw [rv_under hv h ha e hc]
        constructor
        · intro e1
          exact .inr (.inr ⟨c, hc.1, hc.2.1, hc.2.2.1, e1.symm⟩)
        · rintro (h1 | ⟨h1, _⟩ | ⟨c', a1, a2, a3, rfl⟩)
          · exact absurd h1 e
          · exact root_top hv h ha h1 hc.2.2.2
          · rw [hc.one hv h ha ⟨a1, a2, a3, anc_self h ha⟩]
      · rw [rv_else e hu]
        constructor
        · intro e1
          refine .inr (.inl ⟨?_, e⟩)
          rw [← e1]
          exact (rt_of hv h ha).2.1
        · rintro (h1 | ⟨h1, _⟩ | ⟨c', a1, a2, a3, rfl⟩)
          · exact absurd h1 e
          · exact root_one hv h ha (rt_of hv h ha) ⟨ha, h1, anc_self h ha⟩
          · exact absurd ⟨c', a1, a2, a3, anc_self h ha⟩ hu
  rw [cnt_congr hfix, cnt_or, cnt_one hvn, cnt_or]
  · have hh : cnt (fun a => ∃ c, c < es.length ∧ head es s c ∧ fr es s c = v ∧ a = go_ es s c) n = hc es s v := by
      unfold hc
      refine Nat.le_antisymm ?_ (cnt_inj (f := go_ es s) (fun c hc hp => ⟨(ends_lt hv h hc).2, c, hc, hp.1, hp.2, rfl⟩) (fun a b ha hb h1 h2 e => tree_one h ha hb h1.1.1 h2.1.1 e))
      let g : Nat → Nat := fun a => if hx : ∃ c, c < es.length ∧ head es s c ∧ fr es s c = v ∧ a = go_ es s c then Classical.choose hx else 0
      have hg : ∀ a, (∃ c, c < es.length ∧ head es s c ∧ fr es s c = v ∧ a = go_ es s c) → g a < es.length ∧ head es s (g a) ∧ fr es s (g a) = v ∧ a = go_ es s (g a) := fun a hx => by
        show (if hx : ∃ c, c < es.length ∧ head es s c ∧ fr es s c = v ∧ a = go_ es s c then Classical.choose hx else 0) < es.length ∧ _
        have e : g a = Classical.choose hx := dif_pos hx
        rw [e]
        have e2 : (if hx : ∃ c, c < es.length ∧ head es s c ∧ fr es s c = v ∧ a = go_ es s c then Classical.choose hx else 0) = Classical.choose hx := dif_pos hx
        rw [e2]
        exact Classical.choose_spec hx
      exact cnt_inj (f := g) (fun a _ hx => ⟨(hg a hx).1, (hg a hx).2.1, (hg a hx).2.2.1⟩) (fun a b _ _ h1 h2 e => by rw [(hg a h1).2.2.2, (hg b h2).2.2.2, e])
    rw [hh]
    by_cases hg : hangs es s v
    · rw [if_pos hg, cnt_congr (P := fun a => ¬ hangs es s a ∧ a ≠ v) (Q := fun a => ¬ hangs es s a) (fun a _ => ⟨fun h => h.1, fun h => ⟨h, fun e => h (by rw [e]; exact hg)⟩⟩)]
      omega
    · have := cnt_or (P := fun a => a = v) (Q := fun a => ¬ hangs es s a ∧ a ≠ v) (n := n) (fun a _ hx => hx.2.2 hx.1)
      rw [cnt_one hvn, cnt_congr (Q := fun a => ¬ hangs es s a) (fun a _ => ⟨fun h => h.elim (fun e => by rw [e]; exact hg) fun h => h.1, fun h => by
        by_cases e : a = v
        · exact .inl e
        · exact .inr ⟨h, e⟩⟩)] at this
      rw [if_neg hg]
      omega
  · rintro a _ ⟨⟨h1, _⟩, c, a1, a2, a3, rfl⟩
    exact h1 ⟨c, a1, a2.1, rfl⟩
  · rintro a _ ⟨rfl, ⟨_, h1⟩ | ⟨c, a1, a2, a3, e⟩⟩
    · exact h1 rfl
    · have := ends_ne hv h a1
      omega

/-- The edges but the i-th. -/
theorem less_meets (hv : Si.Val n es) (h : VF n es s) {i : Nat} {f : Nat → Nat} : Co.Meets n (es.eraseIdx i) f ↔ ∀ k, k < es.length → k ≠ i → f (fr es s k) = f (go_ es s k) := by
  have key : ∀ k p, es[k]? = some p → (f p.1.toNat = f p.2.toNat ↔ f (fr es s k) = f (go_ es s k)) := fun k p hp => by
    obtain ⟨a1, a2, a3, a4⟩ := ends_at hv hp
    rw [a1, a2, Int.toNat_natCast, Int.toNat_natCast]
    rcases ends_two h (List.getElem?_eq_some_iff.1 hp).1 with ⟨a, b⟩ | ⟨a, b⟩ <;> rw [a, b]
    exact eq_comm
  constructor
  · intro hm k hk hne
    obtain ⟨p, hp⟩ := edge_of hk
    obtain ⟨a1, a2, a3, a4⟩ := ends_at hv hp
    refine (key k p hp).1 (hm p ?_ ⟨by omega, by omega⟩ ⟨by omega, by omega⟩)
    exact List.mem_eraseIdx_iff_getElem?.2 ⟨k, hne, hp⟩
  · intro hm p hp _ _
    obtain ⟨k, hne, hk⟩ := List.mem_eraseIdx_iff_getElem?.1 hp
    exact (key k p hk).2 (hm k (List.getElem?_eq_some_iff.1 hk).1 hne)
open Classical in
/-- An edge that isn't alone in its block stands on a cycle. -/
theorem not_lone (hv : Si.Val n es) (h : VF n es s) {i k : Nat} (hi : i < es.length) (hk : k < es.length) (hne : k ≠ i) (he : hdf es s k = hdf es s i) {f : Nat → Nat} (hf : ∀ k, k < es.length → k ≠ i → f (fr es s k) = f (go_ es s k)) : f (fr es s i) = f (go_ es s i) := by
  obtain ⟨k', hk', hne', hp⟩ : ∃ k', k' < es.length ∧ k' ≠ i ∧ Pair es s i k' := by
    by_cases hx : ∃ k', k' < es.length ∧ k' ≠ i ∧ Pair es s i k'
    · exact hx
    · exfalso
      have := (blocks_iff hv h (hdf_of hv h hk) (hdf_of hv h hi)).1 he (fun a => if a = i then 1 else 0) (fun a b ha hb hp => by
        have hsym : Pair es s b a := by
          obtain ⟨v, x, y, z⟩ := hp
          exact ⟨v, y, x, z.symm⟩
        by_cases e1 : a = i
        · by_cases e2 : b = i
          · rw [if_pos e1, if_pos e2]
          · exact absurd ⟨b, hb, e2, by rw [← e1]; exact hp⟩ hx
        · by_cases e2 : b = i
          · exact absurd ⟨a, ha, e1, by rw [← e2]; exact hsym⟩ hx
          · rw [if_neg e1, if_neg e2])
      rw [if_neg hne, if_pos rfl] at this
      cases this
  obtain ⟨u, h1, h2, h3⟩ := hp
  have h4 : f (oth es s k' u) = f (oth es s i u) := (h3 (fun z => f z = f (oth es s i u)) (fun k hk a b => by
    show f _ = _ ↔ f _ = _
    rw [hf k hk (fun e => by
      subst e
      rcases h1 with h1 | h1
      · exact a h1
      · exact b h1)])).1 rfl
  have h5 := hf k' hk' hne'
  have h6 : f (oth es s k' u) = f u := by
    unfold oth
    rcases h2 with h2 | h2
    · rw [if_pos h2, ← h2, h5]
    · by_cases e : fr es s k' = u
      · rw [if_pos e, h2]
      · rw [if_neg e, ← h2, h5]
  rw [h6] at h4
  unfold oth at h4
  rcases h1 with h1 | h1
  · rw [if_pos h1] at h4
    rw [h1, h4]
  · have hn := ends_ne hv h hi
    rw [if_neg (fun e => hn (h1.trans e.symm))] at h4
    rw [h1, ← h4]
/-- An edge alone in its block: a tree edge to which nothing below it returns. -/
theorem lone_head (hv : Si.Val n es) (h : VF n es s) {i : Nat} (hi : i < es.length) (hl : ∀ k, k < es.length → k ≠ i → hdf es s k ≠ hdf es s i) : head es s i ∧ hdf es s i = i := by
  have hd := hdf_of hv h hi
  by_cases e : hdf es s i = i
  · rw [e] at hd
    exact ⟨hd.lt.2.2, e⟩
  · exact absurd (head_hdf hv h hd.lt.2.1 hd.lt.2.2) (hl _ hd.lt.2.1 e)
open Classical in
/-- Who stands for x without the edge i. -/
noncomputable def ri (n : Nat) (es : List (Int × Int)) (s : St) (i x : Nat) : Nat := if Anc es s (go_ es s i) x then go_ es s i else rt n es s x
open Classical in
theorem less_lone (hv : Si.Val n es) (h : VF n es s) {i : Nat} (hi : i < es.length) (hl : ∀ k, k < es.length → k ≠ i → hdf es s k ≠ hdf es s i) {m m' : Nat → Nat} (hm : Co.Gen n es m) (hm' : Co.Gen n (es.eraseIdx i) m') : cnt (fun a => m' a = a) n = cnt (fun a => m a = a) n + 1 := by
  obtain ⟨hh, hdi⟩ := lone_head hv h hi hl
  obtain ⟨hif, hig⟩ := ends_lt hv h hi
  have hnb := not_below hv h hi hh.1
  have hmeets : Co.Meets n (es.eraseIdx i) (ri n es s i) := by
    rw [less_meets hv h]
    intro k hk hne
    obtain ⟨hkf, hkg⟩ := ends_lt hv h hk
    -- an edge at the beginning of i has its other end not below i
    have hno : endAt es s k (fr es s i) → ¬ Anc es s (go_ es s i) (oth es s k (fr es s i)) := fun h1 h2 => by
      have h3 := head_in hv h hk hi hh h1 h2
      exact hl k hk hne (by rw [hdf_eq hv h h3, hdi])
    have hiff : Anc es s (go_ es s i) (fr es s k) ↔ Anc es s (go_ es s i) (go_ es s k) := by
      by_cases e1 : fr es s k = fr es s i
      · have h1 := hno (.inl e1)
        unfold oth at h1
        rw [if_pos e1] at h1
        exact ⟨fun h2 => absurd (by rw [← e1]; exact h2) hnb, fun h2 => absurd h2 h1⟩
      · by_cases e2 : go_ es s k = fr es s i
        · have h1 := hno (.inr e2)
          unfold oth at h1
          rw [if_neg e1] at h1
          exact ⟨fun h2 => absurd h2 h1, fun h2 => absurd (by rw [← e2]; exact h2) hnb⟩
        · exact head_shut hv h hi hh k hk e1 e2
    unfold ri
    by_cases ha : Anc es s (go_ es s i) (fr es s k)
    · rw [if_pos ha, if_pos (hiff.1 ha)]
    · rw [if_neg ha, if_neg (fun hb => ha (hiff.2 hb)), rt_edge hv h hk]
  have hall : ∀ f, Co.Meets n (es.eraseIdx i) f → ∀ x, x < n → f (ri n es s i x) = f x := fun f hf x hx => by
    rw [less_meets hv h] at hf
    unfold ri
    by_cases ha : Anc es s (go_ es s i) x
    · rw [if_pos ha]
      refine (up_tree h (S := fun z => f z = f x) hx ha fun t ht tt h1 h2 h3 => ?_).1 rfl
      show f _ = _ ↔ f _ = _
      rw [hf t ht (fun e => h3 (by rw [e]))]
    · rw [if_neg ha]
      refine (up_tree h (S := fun z => f z = f x) hx (rt_of hv h hx).2.2 fun t ht tt h1 h2 h3 => ?_).1 rfl
      show f _ = _ ↔ f _ = _
      rw [hf t ht (fun e => ha (by rw [← e]; exact h1))]
  have hlt : ∀ x, x < n → ri n es s i x < n := fun x hx => by
    unfold ri
    split
    · exact hig
    · exact (rt_of hv h hx).1
  rw [gen_count hm' hmeets hall hlt, comps_roots hv h hm]
  have hhang : hangs es s (go_ es s i) := ⟨i, hi, hh.1, rfl⟩
  rw [cnt_congr (Q := fun a => ¬ hangs es s a ∨ a = go_ es s i) (fun a ha => by
    unfold ri
    by_cases hA : Anc es s (go_ es s i) a
    · rw [if_pos hA]
      constructor
      · exact fun e => .inr e.symm
      · rintro (h1 | h1)
        · exact root_top hv h ha h1 hA
        · exact h1.symm
    · rw [if_neg hA]
      constructor
      · intro e
        left
        rw [← e]
        exact (rt_of hv h ha).2.1
      · rintro (h1 | h1)
        · exact root_one hv h ha (rt_of hv h ha) ⟨ha, h1, anc_self h ha⟩
        · exact absurd (by rw [h1]; exact anc_self h hig) hA), cnt_or (P := fun a => ¬ hangs es s a) (Q := fun a => a = go_ es s i) (fun a _ hx => hx.1 (by rw [hx.2]; exact hhang)), cnt_one hig]
open Classical in
/-- More components without an edge just if it is alone in its block. -/
theorem less_count (hv : Si.Val n es) (h : VF n es s) {i : Nat} (hi : i < es.length) {m m' : Nat → Nat} (hm : Co.Gen n es m) (hm' : Co.Gen n (es.eraseIdx i) m') : cnt (fun a => m a = a) n < cnt (fun a => m' a = a) n ↔ lone (no9 es) i es.length = true := by
  unfold lone
  rw [decide_eq_true_iff]
  by_cases hl : ∀ k, k < es.length → k ≠ i → hdf es s k ≠ hdf es s i
  · rw [less_lone hv h hi hl hm hm']
    exact ⟨fun _ k hk hne e => hl k hk hne ((no9_hdf hv h hk hi).1 e), fun _ => by omega⟩
  · have hx : ∃ k, k < es.length ∧ k ≠ i ∧ hdf es s k = hdf es s i := by
      by_cases hx : ∃ k, k < es.length ∧ k ≠ i ∧ hdf es s k = hdf es s i
      · exact hx
      · exact absurd (fun k hk hne e => hx ⟨k, hk, hne, e⟩) hl
    obtain ⟨k, hk, hne, he⟩ := hx
    have hg : Co.Gen n es m' := ⟨hm'.norm, (meets_iff h hv).2 fun j hj => by
      by_cases e : j = i
      · rw [e]
        exact not_lone hv h hi hk hne he ((less_meets hv h).1 hm'.meets)
      · exact (less_meets hv h).1 hm'.meets j hj e, fun f hf x hx => hm'.least f ((less_meets hv h).2 fun j hj _ => (meets_iff h hv).1 hf j hj) x hx⟩
    rw [comps_roots hv h hm, comps_roots hv h hg]
    exact ⟨fun hlt => by omega, fun hL => absurd ((no9_hdf hv h hk hi).2 he) (hL k hk hne)⟩
end
end Bl
end Go.Proofs.YtalfpbalekbinaaGreat
