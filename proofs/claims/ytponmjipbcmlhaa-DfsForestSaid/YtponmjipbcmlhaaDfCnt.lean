/-
  How many tree edges a depth-first forest has, pure.
-/
import Derived.Test.YtponmjipbcmlhaaMgD
import Derived.Test.YtponmjipbcmlhaaDfBack
namespace Go.Proofs.Ytponmjipbcmlhaa
namespace Df

/-- How many below k are so. -/
def cn (p : Nat → Bool) (k : Nat) : Nat := (List.range k).countP p
theorem cn_zero (p : Nat → Bool) : cn p 0 = 0 := rfl
theorem cn_succ (p : Nat → Bool) (k : Nat) : cn p (k + 1) = cn p k + if p k = true then 1 else 0 := by
  unfold cn
  rw [List.range_succ, List.countP_append, List.countP_singleton]
theorem cn_yes {p : Nat → Bool} {k : Nat} (h : p k = true) : cn p (k + 1) = cn p k + 1 := by rw [cn_succ, if_pos h]
theorem cn_no {p : Nat → Bool} {k : Nat} (h : p k = false) : cn p (k + 1) = cn p k := by rw [cn_succ, if_neg (by rw [h]; decide)]; omega
theorem cn_le (p : Nat → Bool) (k : Nat) : cn p k ≤ k := by
  unfold cn
  have := List.countP_le_length (p := p) (l := List.range k)
  simpa using this
theorem cn_not (p : Nat → Bool) (k : Nat) : cn p k + cn (fun i => !p i) k = k := by
  induction k with
  | zero => rfl
  | succ k ih =>
    cases h : p k with
    | true => rw [cn_yes h, cn_no (by simp [h])]; omega
    | false => rw [cn_no h, cn_yes (by simp [h])]; omega

section
variable {n : Nat} {es : List (Int × Int)} {s : St}

/-- Is it a root? -/
def rootB (s : St) (v : Nat) : Bool := decide (at_ s.par v < 0)

/-- Is it a tree edge? -/
def treeB (s : St) (e : Nat) : Bool := !back s (e : Int)

/-- A tree edge for each vertex that is no root. -/
theorem VF.count (h : VF n es s) : cn (treeB s) es.length + cn (rootB s) n = n := by
  have key : cn (treeB s) es.length = cn (fun v => !rootB s v) n := by
    unfold cn
    rw [List.countP_eq_length_filter, List.countP_eq_length_filter]
    have hpar : ∀ v, v < n → rootB s v = false → ∃ x : Nat, x < 2 * es.length ∧ at_ s.par v = (x : Int) ∧ Cs.to es x = v ∧ at_ s.ori (x / 2) = (x : Int) := fun v hv hr => by
      rcases h.hang v hv with ⟨h1, _⟩ | ⟨x, h1, h2, h3, h4, _⟩
      · unfold rootB at hr
        rw [h1] at hr
        simp at hr
      · exact ⟨x, h1, h2, h3, h4⟩
    have hperm : ((List.range es.length).filter (treeB s)).Perm (((List.range n).filter (fun v => !rootB s v)).map fun v => (at_ s.par v).toNat / 2) := by
      rw [List.perm_ext_iff_of_nodup]
      · intro e
        rw [List.mem_filter, List.mem_map, List.mem_range]
        constructor
        · rintro ⟨he, hb⟩
          have hl : e < s.ori.length := by rw [h.lens.2.2.2]; exact he
          have hb2 : back s (e : Int) = false := by unfold treeB at hb; simpa using hb
          rw [back_in hl] at hb2
          have hmem : s.ori.getD e 0 ∈ s.par := by simpa using hb2
          obtain ⟨v, hvg⟩ := List.getElem?_of_mem hmem
          have hvl : v < s.par.length := (List.getElem?_eq_some_iff.1 hvg).1
          have hvp : at_ s.par v = s.ori.getD e 0 := by
            unfold at_
            rw [List.getD_eq_getElem?_getD, hvg]
            rfl
          have ho : at_ s.ori e = s.ori.getD e 0 := by
            unfold at_
            rw [List.getD_eq_getElem?_getD, List.getD_eq_getElem?_getD, List.getElem?_eq_getElem hl]
            rfl
          obtain ⟨x, hx, hxo, _⟩ := h.edge e he
          rw [ho] at hxo
          refine ⟨v, List.mem_filter.2 ⟨List.mem_range.2 (by rw [← h.lens.1]; exact hvl), ?_⟩, ?_⟩
          · unfold rootB
            rw [hvp, hxo]
            simp
          · rw [hvp, hxo, Int.toNat_natCast]
            omega
        · rintro ⟨v, hv, rfl⟩
          obtain ⟨hv1, hv2⟩ := List.mem_filter.1 hv
          have hvn := List.mem_range.1 hv1
          obtain ⟨x, h1, h2, h3, h4⟩ := hpar v hvn (by simpa using hv2)
          rw [h2, Int.toNat_natCast]
          have hl : x / 2 < s.ori.length := by rw [h.lens.2.2.2]; omega
          refine ⟨by omega, ?_⟩
          unfold treeB
          rw [back_in hl]
          have ho : s.ori.getD (x / 2) 0 = (x : Int) := by
            rw [← h4]
            unfold at_
            rw [List.getD_eq_getElem?_getD, List.getD_eq_getElem?_getD, List.getElem?_eq_getElem hl]
            rfl
          have hvl : v < s.par.length := by rw [h.lens.1]; exact hvn
          have hm : (x : Int) ∈ s.par := by
            have e2 : s.par[v]? = some (x : Int) := by
              rw [List.getElem?_eq_getElem hvl]
              have h2' := h2
              unfold at_ at h2'
              rw [List.getD_eq_getElem?_getD, List.getElem?_eq_getElem hvl] at h2'
              exact congrArg some h2'
            exact List.mem_of_getElem? e2
          rw [ho]
          simpa using hm
      · exact List.Nodup.sublist List.filter_sublist List.nodup_range
      · rw [List.nodup_iff_pairwise_ne, List.pairwise_map]
        refine List.Pairwise.imp_of_mem ?_ (List.Nodup.sublist List.filter_sublist List.nodup_range : ((List.range n).filter (fun v => !rootB s v)).Nodup)
        intro a c ha hc hac e
        obtain ⟨ha1, ha2⟩ := List.mem_filter.1 ha
        obtain ⟨hc1, hc2⟩ := List.mem_filter.1 hc
        obtain ⟨x, h1, h2, h3, h4⟩ := hpar a (List.mem_range.1 ha1) (by simpa using ha2)
        obtain ⟨y, k1, k2, k3, k4⟩ := hpar c (List.mem_range.1 hc1) (by simpa using hc2)
        rw [h2, k2, Int.toNat_natCast, Int.toNat_natCast] at e
        rw [e] at h4
        have : x = y := by omega
        exact hac (by rw [← h3, ← k3, this])
    rw [hperm.length_eq, List.length_map]
  rw [key]
  have := cn_not (rootB s) n
  omega
end
end Df
end Go.Proofs.Ytponmjipbcmlhaa
