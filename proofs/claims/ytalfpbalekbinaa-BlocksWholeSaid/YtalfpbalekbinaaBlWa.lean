/-
  Blocks, pure: within a block alone the steps from an edge up to its head can be gone.
-/
import Derived.Test.YtalfpbalekbinaaMg10
import Derived.Test.YtalfpbalekbinaaMg11
namespace Go.Proofs.Ytalfpbalekbinaa
namespace Bl
open Df Lo

/-- No edge of the block with head c that does not end at v leads out of S, or in. -/
def ShutC (es : List (Int × Int)) (s : St) (c v : Nat) (S : Nat → Prop) : Prop := ∀ k, HD es s k c → fr es s k ≠ v → go_ es s k ≠ v → (S (fr es s k) ↔ S (go_ es s k))

section
variable {n : Nat} {es : List (Int × Int)} {s : St} {v c : Nat}

theorem way_connC (h : VF n es s) {S : Nat → Prop} (hS : ShutC es s c v S) {a : Nat} (hav : a ≠ v) : ∀ (X : List Int) (Y : List Int) (u : Nat), (∀ x ∈ (u : Int) :: X, ∃ z : Nat, z < n ∧ x = (z : Int)) → IsWay es s ((u : Int) :: X ++ (a : Int) :: Y) → (∀ x ∈ (u : Int) :: X, x ≠ (v : Int)) → (∀ t, t < es.length → tree es s t = true → (go_ es s t : Int) ∈ (u : Int) :: X → HD es s t c) → (S u ↔ S a)
  | [], Y, u, hr, hw, hne, hC => by
    obtain ⟨z, hz, hzu⟩ := hr u List.mem_cons_self
    have hup : Df.up es s u = (a : Int) := hw.2.1
    obtain ⟨k, hk, htk, hgk, hfk⟩ := hang_edge h (x := u) (by omega) hup (by omega)
    have huv := hne u List.mem_cons_self
    have := hS k (hC k hk htk (by rw [hgk]; exact List.mem_cons_self)) (by omega) (by omega)
    rw [hgk, show fr es s k = a by omega] at this
    exact this.symm
  | y :: X, Y, u, hr, hw, hne, hC => by
    obtain ⟨z, hz, hzu⟩ := hr u List.mem_cons_self
    obtain ⟨q, hq, rfl⟩ := hr y (List.mem_cons_of_mem _ List.mem_cons_self)
    have hup : Df.up es s u = (q : Int) := hw.2.1
    obtain ⟨k, hk, htk, hgk, hfk⟩ := hang_edge h (x := u) (by omega) hup (by omega)
    have huv := hne u List.mem_cons_self
    have hqv := hne q (List.mem_cons_of_mem _ List.mem_cons_self)
    have h1 := hS k (hC k hk htk (by rw [hgk]; exact List.mem_cons_self)) (by omega) (by omega)
    rw [hgk, show fr es s k = q by omega] at h1
    have h2 := way_connC h hS hav X Y q (fun x hx => hr x (List.mem_cons_of_mem _ hx)) hw.2.2 (fun x hx => hne x (List.mem_cons_of_mem _ hx)) (fun t h1 h2 h3 => hC t h1 h2 (List.mem_cons_of_mem _ h3))
    exact h1.symm.trans h2

/-- From u up to a vertex above it, if v does not stand between and the edges between are of the block. -/
theorem up_connC (h : VF n es s) {S : Nat → Prop} (hS : ShutC es s c v S) {a u : Nat} (hu : u < n) (ha : Anc es s a u) (hne : ∀ x : Nat, Anc es s a x → Anc es s x u → x ≠ v) (hC : ∀ t, t < es.length → tree es s t = true → Anc es s (go_ es s t) u → Anc es s a (go_ es s t) → go_ es s t ≠ a → HD es s t c) : S u ↔ S a := by
  obtain ⟨Y, hw, hnd, hr⟩ := way_up h hu
  have hm := (Anc.iff hw).1 ha
  obtain ⟨X, Z, hXZ⟩ := List.append_of_mem hm
  have haa : Anc es s a a := by
    have hw2 := hw
    rw [hXZ] at hw2
    exact ⟨Z, hw2.tail, by simp⟩
  have hav : a ≠ v := hne a haa ha
  cases X with
  | nil =>
    have : (u : Int) = (a : Int) := by
      simp at hXZ
      omega
    rw [show u = a by omega]
  | cons x0 X =>
    have hx0 : x0 = (u : Int) := by
      simp at hXZ
      exact hXZ.1.symm
    subst hx0
    have hw2 := hw
    rw [hXZ] at hw2
    have hb : ∀ x : Int, x ∈ (u : Int) :: X → ∀ q : Nat, x = (q : Int) → Anc es s a q ∧ Anc es s q u ∧ q ≠ a := fun x hx q e1 => by
      obtain ⟨X1, X2, hX12⟩ := List.append_of_mem hx
      have hway : IsWay es s (x :: (X2 ++ (a : Int) :: Z)) := by
        have hw3 := hw2
        rw [hX12, List.append_assoc] at hw3
        exact hw3.tail
      rw [e1] at hway
      refine ⟨⟨_, hway, by simp⟩, ⟨Y, hw, by rw [hXZ, ← e1]; exact List.mem_append_left _ hx⟩, fun e2 => ?_⟩
      rw [hXZ, List.nodup_append] at hnd
      exact hnd.2.2 x hx (a : Int) List.mem_cons_self (by rw [e1, e2])
    refine way_connC h hS hav X Z u (fun x hx => hr x (by rw [hXZ]; exact List.mem_append_left _ hx)) hw2 (fun x hx e1 => ?_) (fun t h1 h2 h3 => ?_)
    · obtain ⟨h4, h5, _⟩ := hb x hx v e1
      exact hne v h4 h5 rfl
    · obtain ⟨h4, h5, h6⟩ := hb _ h3 _ rfl
      exact hC t h1 h2 h5 h4 h6

/-- The tree edges between an edge that returns and where it returns to are of its block. -/
theorem ret_block (hv : Si.Val n es) (h : VF n es s) {b : Nat} (hb : b < es.length) (tb : tree es s b = false) (hd : HD es s b c) : ∀ (d t : Nat), t < es.length → tree es s t = true → Anc es s (go_ es s t) (fr es s b) → Anc es s (go_ es s b) (go_ es s t) → go_ es s t ≠ go_ es s b → at_ s.hei (fr es s b) ≤ at_ s.hei (go_ es s t) + (d : Int) → HD es s t c := by
  intro d
  induction d with
  | zero =>
    intro t ht tt ha hab hne hle
    obtain ⟨hbf, hbg⟩ := ends_lt hv h hb
    obtain ⟨htf, htg⟩ := ends_lt hv h ht
    by_cases e : go_ es s t = fr es s b
    · cases hd with
      | self _ hh => exact absurd (tb.symm.trans hh.1) (by decide)
      | up _ _ hp tp gp h3 => rw [tree_one h ht hp tt tp (e.trans gp.symm)]; exact h3
    · have := anc_height hv h.once h.hang h.side hbf e ha
      omega
  | succ d ih =>
    intro t ht tt ha hab hne hle
    obtain ⟨hbf, hbg⟩ := ends_lt hv h hb
    obtain ⟨htf, htg⟩ := ends_lt hv h ht
    by_cases e : go_ es s t = fr es s b
    · cases hd with
      | self _ hh => exact absurd (tb.symm.trans hh.1) (by decide)
      | up _ _ hp tp gp h3 => rw [tree_one h ht hp tt tp (e.trans gp.symm)]; exact h3
    · obtain ⟨t', ht', tt', hf', ha'⟩ := child_of h hbf ha e
      have hup := (tree_up hv h ht' tt').2
      have hh1 := anc_height hv h.once h.hang h.side htg (fun e => hne e.symm) hab
      have e1 : Lo.ht es s t' = at_ s.hei (go_ es s t') := rfl
      have e2 : hf es s t' = at_ s.hei (go_ es s t) := by unfold hf; rw [hf']
      have e3 : Lo.ht es s b = at_ s.hei (go_ es s b) := rfl
      have hlow := low_le_ht tt' hb tb ha'
      have h4 := ih t' ht' tt' ha' (anc_trans hab (by rw [← hf']; exact child_anc hv h ht' tt')) (fun e => by rw [e] at e1; omega) (by omega)
      cases h4 with
      | self _ hh => exact absurd hh.2 (by omega)
      | up _ _ hp tp gp h5 => rw [tree_one h ht hp tt tp (hf'.symm.trans gp.symm)]; exact h5

/-- An edge of a block that is no head, and the edge by which its beginning hangs: on one cycle of the block. -/
theorem up_pairC (hv : Si.Val n es) (h : VF n es s) {k p : Nat} (hk : k < es.length) (hn : ¬ head es s k) (hkc : HD es s k c) (hp : p < es.length) (tp : tree es s p = true) (gp : go_ es s p = fr es s k) {S : Nat → Prop} (hS : ShutC es s c (fr es s k) S) : S (go_ es s k) ↔ S (fr es s p) := by
  obtain ⟨hkf, hkg⟩ := ends_lt hv h hk
  obtain ⟨hpf, hpg⟩ := ends_lt hv h hp
  have hnb := not_below hv h hp tp
  rw [gp] at hnb
  have hcp := child_anc hv h hp tp
  rw [gp] at hcp
  have hpar : ∀ a : Nat, Anc es s a (fr es s k) → a ≠ fr es s k → Anc es s a (fr es s p) := fun a ha hne => anc_parent hv h hp tp (by rw [gp]; exact ha) (by rw [gp]; exact hne)
  -- with an edge b of the block that returns from at or below the beginning of k to above it
  have hup : ∀ b, b < es.length → tree es s b = false → HD es s b c → Anc es s (fr es s k) (fr es s b) → Anc es s (go_ es s b) (fr es s k) → go_ es s b ≠ fr es s k → (S (fr es s p) ↔ S (go_ es s b)) := fun b hb tb hbc h1 h2 h3 => by
    obtain ⟨hbf, hbg⟩ := ends_lt hv h hb
    refine up_connC h hS hpf (hpar _ h2 h3) (fun x _ hx e => hnb (by rw [← e]; exact hx)) (fun t ht tt h4 h5 h6 => ?_)
    have hd := (rooted_of hv h.once h.hang h.side _ hbf).2.1
    have hd2 := (rooted_of hv h.once h.hang h.side _ (ends_lt hv h ht).2).1
    exact ret_block hv h hb tb hbc n t ht tt (anc_trans (anc_trans h4 hcp) h1) h5 h6 (by omega)
  cases tk : tree es s k with
  | false =>
    exact (hup k hk tk hkc (anc_self h hkf) (back_anc h hk tk) (ends_ne hv h hk)).symm
  | true =>
    have hlow : low es s k < hf es s k := by
      by_cases hl : hf es s k ≤ low es s k
      · exact absurd ⟨tk, hl⟩ hn
      · omega
    rcases least_mem (hf es s k) (hs es s k) with h2 | h2
    · have h3 : low es s k = hf es s k := h2
      omega
    · obtain ⟨b, hb, hb2⟩ := List.mem_map.1 h2
      have hb3 : Lo.ht es s b = low es s k := hb2
      obtain ⟨b1, b2, b3, b4⟩ := (mem_rets_tree tk).1 hb
      obtain ⟨hbf, hbg⟩ := ends_lt hv h b1
      have hkh := (tree_up hv h hk tk).2
      have hnk := not_below hv h hk tk
      have hne : ∀ x : Nat, Anc es s (go_ es s k) x → x ≠ fr es s k := fun x hx e => hnk (by rw [← e]; exact hx)
      have hbgv : go_ es s b ≠ fr es s k := fun e => by
        have : Lo.ht es s b = hf es s k := by unfold Lo.ht hf; rw [e]
        omega
      have hbb := back_anc h b1 b2
      have hkb : Anc es s (fr es s k) (fr es s b) := anc_trans (child_anc hv h hk tk) b4
      have hab : Anc es s (go_ es s b) (fr es s k) := anc_cmp hv h hbf hbg hbb hkb (by unfold Lo.ht hf at b3; omega)
      have habk : Anc es s (go_ es s b) (go_ es s k) := anc_trans hab (child_anc hv h hk tk)
      have hd := (rooted_of hv h.once h.hang h.side _ hbf).2.1
      have e1 : Lo.ht es s b = at_ s.hei (go_ es s b) := rfl
      have e2 : Lo.ht es s k = at_ s.hei (go_ es s k) := rfl
      -- b is of the block
      have hbc : HD es s b c := by
        have h5 := hdf_of hv h b1
        have h6 := ret_block hv h b1 b2 h5 n k hk tk b4 habk (fun e => by rw [e] at e2; omega) (by have := (rooted_of hv h.once h.hang h.side _ hkg).1; omega)
        rw [hkc.unique h h6]
        exact h5
      have h4 : S (fr es s b) ↔ S (go_ es s k) := up_connC h hS hbf b4 (fun x hx _ => hne x hx) (fun t ht tt h5 h6 h7 => by
        have hth := anc_height hv h.once h.hang h.side (ends_lt hv h ht).2 (fun e => h7 e.symm) h6
        exact ret_block hv h b1 b2 hbc n t ht tt h5 (anc_trans habk h6) (fun e => by rw [e] at hth; omega) (by have := (rooted_of hv h.once h.hang h.side _ (ends_lt hv h ht).2).1; omega))
      have h5 := hS b hbc (hne _ b4) hbgv
      exact h4.symm.trans (h5.trans (hup b b1 b2 hbc hkb hab hbgv).symm)
end
end Bl
end Go.Proofs.Ytalfpbalekbinaa
