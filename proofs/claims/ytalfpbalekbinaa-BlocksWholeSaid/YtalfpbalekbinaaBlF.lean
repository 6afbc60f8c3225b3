/-
  Blocks, pure: components are trees of the forest: as many as roots.
-/
import Derived.Test.YtalfpbalekbinaaMg10
import Derived.Test.YtalfpbalekbinaaMg25
namespace Go.Proofs.Ytalfpbalekbinaa
namespace Bl
open Df Lo

section
variable {n : Nat} {es : List (Int × Int)} {s : St} {v : Nat}

/-- r is the root above v. -/
def RootOf (n : Nat) (es : List (Int × Int)) (s : St) (v r : Nat) : Prop := r < n ∧ ¬ hangs es s r ∧ Anc es s r v

theorem root_ex (hv : Si.Val n es) (h : VF n es s) : ∀ (d : Nat) (v : Nat), v < n → at_ s.hei v ≤ (d : Int) → ∃ r, RootOf n es s v r := by
  have hr := rooted_of hv h.once h.hang h.side
  intro d
  induction d with
  | zero =>
    intro v hvn hd
    refine ⟨v, hvn, fun ⟨p, hp, tp, gp⟩ => ?_, anc_self h hvn⟩
    have h1 := (tree_up hv h hp tp).2
    have h2 := hr _ (ends_lt hv h hp).1
    unfold Lo.ht hf at h1
    rw [gp] at h1
    omega
  | succ d ih =>
    intro v hvn hd
    by_cases hg : hangs es s v
    · obtain ⟨p, hp, tp, gp⟩ := hg
      have h1 := (tree_up hv h hp tp).2
      unfold Lo.ht hf at h1
      rw [gp] at h1
      obtain ⟨r, h2, h3, h4⟩ := ih _ (ends_lt hv h hp).1 (by omega)
      have h5 := child_anc hv h hp tp
      rw [gp] at h5
      exact ⟨r, h2, h3, anc_trans h4 h5⟩
    · exact ⟨v, hvn, hg, anc_self h hvn⟩

/-- Above a root there is no one else. -/
theorem root_top (hv : Si.Val n es) (h : VF n es s) {a r : Nat} (hr : r < n) (hg : ¬ hangs es s r) (ha : Anc es s a r) : a = r := by
  by_cases e : a = r
  · exact e
  · exfalso
    rcases (h.hang r hr).cases hv with ⟨_, h1, _⟩ | ⟨u, hun, hup, _, _⟩
    · obtain ⟨Y, hw, _, hrr⟩ := way_up h hr
      have hm := (Anc.iff hw).1 ha
      have h2 := hw.2.1
      cases Y with
      | nil =>
        have : (a : Int) = (r : Int) := by simpa using hm
        omega
      | cons y Y =>
        have : y = -1 := by
          rw [h1] at h2
          simpa using h2.symm
        obtain ⟨z, _, hz⟩ := hrr y (by simp)
        omega
    · obtain ⟨p, hp, tp, gp, _⟩ := hang_edge h hr hup (by omega)
      exact hg ⟨p, hp, tp, gp⟩

theorem root_one (hv : Si.Val n es) (h : VF n es s) {v r r' : Nat} (hvn : v < n) (h1 : RootOf n es s v r) (h2 : RootOf n es s v r') : r = r' := by
  obtain ⟨a1, a2, a3⟩ := h1
  obtain ⟨b1, b2, b3⟩ := h2
  by_cases hle : at_ s.hei r ≤ at_ s.hei r'
  · exact root_top hv h b1 b2 (anc_cmp hv h hvn a1 a3 b3 hle)
  · exact (root_top hv h a1 a2 (anc_cmp hv h hvn b1 b3 a3 (by omega))).symm

open Classical in
noncomputable def rt (n : Nat) (es : List (Int × Int)) (s : St) (v : Nat) : Nat := if hx : ∃ r, RootOf n es s v r then Classical.choose hx else 0
open Classical in
theorem rt_of (hv : Si.Val n es) (h : VF n es s) (hvn : v < n) : RootOf n es s v (rt n es s v) := by
  have hex := root_ex hv h n v hvn (by have := (rooted_of hv h.once h.hang h.side v hvn).2.1; omega)
  unfold rt
  rw [dif_pos hex]
  exact Classical.choose_spec hex

theorem rt_anc (hv : Si.Val n es) (h : VF n es s) {a b : Nat} (ha : a < n) (hb : b < n) (hab : Anc es s a b) : rt n es s a = rt n es s b := by
  obtain ⟨r1, r2, r3⟩ := rt_of hv h ha
  exact root_one hv h hb ⟨r1, r2, anc_trans r3 hab⟩ (rt_of hv h hb)

/-- Along every edge the root is one. -/
theorem rt_edge (hv : Si.Val n es) (h : VF n es s) {k : Nat} (hk : k < es.length) : rt n es s (fr es s k) = rt n es s (go_ es s k) := by
  obtain ⟨h1, h2⟩ := ends_lt hv h hk
  cases tk : tree es s k with
  | true => exact rt_anc hv h h1 h2 (child_anc hv h hk tk)
  | false => exact (rt_anc hv h h2 h1 (back_anc h hk tk)).symm

/-- A function that is one along edges, by the edges as they are walked. -/
theorem meets_iff (h : VF n es s) (hv : Si.Val n es) {f : Nat → Nat} : Co.Meets n es f ↔ ∀ k, k < es.length → f (fr es s k) = f (go_ es s k) := by
  have hends : ∀ k, k < es.length → ∀ p, es[k]? = some p → eU es k = p.1.toNat ∧ eV es k = p.2.toNat := fun k hk p hp => by
    unfold eU eV Cs.fr Cs.to
    have e1 : 2 * k % 2 = 0 := by omega
    have e2 : 2 * k / 2 = k := by omega
    rw [if_pos e1, if_pos e1, e2, List.getD_eq_getElem?_getD, hp]
    exact ⟨rfl, rfl⟩
  constructor
  · intro hm k hk
    obtain ⟨p, hp⟩ : ∃ p, es[k]? = some p := ⟨_, List.getElem?_eq_getElem hk⟩
    have hok := hv.each k p hp
    unfold Si.ok at hok
    have := hm p (List.mem_of_getElem? hp) ⟨by omega, by omega⟩ ⟨by omega, by omega⟩
    obtain ⟨e1, e2⟩ := hends k hk p hp
    rw [← e1, ← e2] at this
    rcases ends_two h hk with ⟨a, b⟩ | ⟨a, b⟩
    · rw [a, b]; exact this
    · rw [a, b]; exact this.symm
  · intro hall p hp _ _
    obtain ⟨k, hk⟩ := List.getElem?_of_mem hp
    have hkl := (List.getElem?_eq_some_iff.1 hk).1
    obtain ⟨e1, e2⟩ := hends k hkl p hk
    rw [← e1, ← e2]
    have := hall k hkl
    rcases ends_two h hkl with ⟨a, b⟩ | ⟨a, b⟩
    · rw [a, b] at this; exact this
    · rw [a, b] at this; exact this.symm

/-- What is one along edges is one from a vertex to its root. -/
theorem one_root (hv : Si.Val n es) (h : VF n es s) {f : Nat → Nat} (hf' : ∀ k, k < es.length → f (fr es s k) = f (go_ es s k)) : ∀ (d : Nat) (v : Nat), v < n → at_ s.hei v ≤ (d : Int) → f (rt n es s v) = f v := by
  intro d
  induction d with
  | zero =>
    intro v hvn hd
    have hg : ¬ hangs es s v := fun ⟨p, hp, tp, gp⟩ => by
      have h1 := (tree_up hv h hp tp).2
      have h2 := rooted_of hv h.once h.hang h.side _ (ends_lt hv h hp).1
      unfold Lo.ht hf at h1
      rw [gp] at h1
      omega
    rw [root_one hv h hvn (rt_of hv h hvn) ⟨hvn, hg, anc_self h hvn⟩]
  | succ d ih =>
    intro v hvn hd
    by_cases hg : hangs es s v
    · obtain ⟨p, hp, tp, gp⟩ := hg
      have h1 := (tree_up hv h hp tp).2
      unfold Lo.ht hf at h1
      rw [gp] at h1
      have h2 := ih _ (ends_lt hv h hp).1 (by omega)
      have h3 := rt_edge hv h hp
      have h4 := hf' p hp
      rw [gp] at h3 h4
      rw [← h3, h2, h4]
    · rw [root_one hv h hvn (rt_of hv h hvn) ⟨hvn, hg, anc_self h hvn⟩]

/-- As many components as roots. -/
theorem comps_roots (hv : Si.Val n es) (h : VF n es s) {m : Nat → Nat} (hm : Co.Gen n es m) : cnt (fun a => m a = a) n = cnt (fun v => ¬ hangs es s v) n := by
  have hr := rooted_of hv h.once h.hang h.side
  have h1 : ∀ v, v < n → m (rt n es s v) = m v := fun v hvn => one_root hv h ((meets_iff h hv).1 hm.meets) n v hvn (by have := (hr v hvn).2.1; omega)
  have h2 : ∀ v, v < n → rt n es s (m v) = rt n es s v := fun v hvn => hm.least _ ((meets_iff h hv).2 (fun k hk => rt_edge hv h hk)) v hvn
  refine Nat.le_antisymm (cnt_inj (f := rt n es s) (fun a ha _ => ⟨(rt_of hv h ha).1, (rt_of hv h ha).2.1⟩) (fun a b ha hb pa pb e => ?_)) (cnt_inj (f := m) (fun r hrn hg => ⟨?_, ?_⟩) (fun a b ha hb pa pb e => ?_))
  · have pa : m a = a := pa
    have pb : m b = b := pb
    rw [← pa, ← pb, ← h1 a ha, ← h1 b hb, e]
  · have := hm.norm.le r hrn
    omega
  · exact hm.norm.idem r hrn
  · have q : ∀ r, r < n → ¬ hangs es s r → rt n es s r = r := fun r hrn hg => root_one hv h hrn (rt_of hv h hrn) ⟨hrn, hg, anc_self h hrn⟩
    rw [← q a ha pa, ← q b hb pb, ← h2 a ha, ← h2 b hb, e]
end
end Bl
end Go.Proofs.Ytalfpbalekbinaa
