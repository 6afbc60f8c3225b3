/-
  Blocks, pure: the sum over the block tree, by numbers of blocks and components.
-/
import Derived.Test.YtalfpbalekbinaaMg41
import Derived.Test.YtalfpbalekbinaaBlF
import Derived.Test.YtalfpbalekbinaaCoOf
import Derived.Test.YtalfpbalekbinaaCoIso
namespace Go.Proofs.Ytalfpbalekbinaa
namespace Bl
open Df Lo

theorem cntTo_cnt (p : Nat → Bool) (n : Nat) : Co.cntTo p n = cnt (fun i => p i = true) n := by
  classical
  rw [← filter_len]
  unfold cnt
  congr 1
  exact List.filter_congr fun a _ => by simp

section
variable {n : Nat} {es : List (Int × Int)} {s : St} {v : Nat}

theorem no9_iff {e i : Nat} (he : e < es.length) (hi : i < es.length) : no9 es e = no9 es i ↔ m9 es e = m9 es i := by
  constructor
  · intro h
    have h1 := filter_get (fun i => decide (m9 es i = i)) (m9_mem he).1 (by simpa using m9_norm.idem e he)
    have h2 := filter_get (fun i => decide (m9 es i = i)) (m9_mem hi).1 (by simpa using m9_norm.idem i hi)
    unfold no9 numB at h
    rw [cntB_eq, cntB_eq] at h
    rw [h, h2] at h1
    exact (Option.some.inj h1).symm
  · intro h
    unfold no9 numB
    rw [h]
theorem no9_hdf (hv : Si.Val n es) (h : VF n es s) {e i : Nat} (he : e < es.length) (hi : i < es.length) : no9 es e = no9 es i ↔ hdf es s e = hdf es s i := by
  rw [no9_iff he hi, ← m9_mB hv h he, ← m9_mB hv h hi, mB_iff hi he]
theorem no9_lt {e : Nat} (he : e < es.length) : no9 es e < ct9 es := by
  have h1 := (m9_mem he).1
  have h2 := filter_get (fun i => decide (m9 es i = i)) h1 (by simpa using m9_norm.idem e he)
  have h3 := (List.getElem?_eq_some_iff.1 h2).1
  rw [filter_len] at h3
  exact h3
theorem head_hdf (hv : Si.Val n es) (h : VF n es s) {e : Nat} (he : e < es.length) (hh : head es s e) : hdf es s e = e := hdf_eq hv h (.self he hh)

/-- An edge ends at v, by the graph and by the forest. -/
theorem at_end (hv : Si.Val n es) (h : VF n es s) {i : Nat} {p : Int × Int} (hp : es[i]? = some p) : (p.1 = (v : Int) ∨ p.2 = (v : Int)) ↔ endAt es s i v := by
  obtain ⟨p1, p2, _⟩ := ends_at hv hp
  rw [← endG_iff h (List.getElem?_eq_some_iff.1 hp).1]
  unfold endG
  omega
open Classical in
theorem hit_end (hv : Si.Val n es) (h : VF n es s) {f : Nat → Nat} {k : Nat} : hitB es f (v : Int) k es.length = true ↔ ∃ i, i < es.length ∧ f i = k ∧ endAt es s i v := by
  unfold hitB
  rw [decide_eq_true_iff]
  constructor
  · rintro ⟨i, p, h1, h2, h3, h4⟩
    exact ⟨i, h1, h3, (at_end hv h h2).1 h4⟩
  · rintro ⟨i, h1, h3, h4⟩
    obtain ⟨p, hp⟩ := edge_of h1
    exact ⟨i, p, h1, hp, h3, (at_end hv h hp).2 h4⟩
open Classical in
/-- How many blocks a vertex is in, by their numbers and by their heads. -/
theorem in_heads (hv : Si.Val n es) (h : VF n es s) : inB es (no9 es) (v : Int) (ct9 es) = inH es s v := by
  unfold inB inH
  rw [cntTo_cnt]
  refine Nat.le_antisymm ?_ ?_
  · let g : Nat → Nat := fun k => if hx : ∃ i, i < es.length ∧ no9 es i = k ∧ endAt es s i v then hdf es s (Classical.choose hx) else 0
    have hg : ∀ k, hitB es (no9 es) (v : Int) k es.length = true → ∃ i, i < es.length ∧ no9 es i = k ∧ endAt es s i v ∧ g k = hdf es s i := fun k hk => by
      have hx := (hit_end hv h).1 hk
      refine ⟨Classical.choose hx, (Classical.choose_spec hx).1, (Classical.choose_spec hx).2.1, (Classical.choose_spec hx).2.2, ?_⟩
      show (if hx : ∃ i, i < es.length ∧ no9 es i = k ∧ endAt es s i v then hdf es s (Classical.choose hx) else 0) = _
      rw [dif_pos hx]
    refine cnt_inj (f := g) (fun k _ hk => ?_) (fun a b _ _ ha hb e => ?_)
    · obtain ⟨i, h1, h2, h3, h4⟩ := hg k hk
      have hd := hdf_of hv h h1
      rw [h4]
      exact ⟨hd.lt.2.1, i, h1, h3, hd⟩
    · obtain ⟨i, h1, h2, h3, h4⟩ := hg a ha
      obtain ⟨j, k1, k2, k3, k4⟩ := hg b hb
      rw [← h2, ← k2]
      exact (no9_hdf hv h h1 k1).2 (by rw [← h4, ← k4, e])
  · refine cnt_inj (f := no9 es) (fun e he ⟨i, h1, h2, h3⟩ => ⟨no9_lt he, ?_⟩) (fun a b ha hb ⟨i, h1, h2, h3⟩ ⟨j, k1, k2, k3⟩ e => ?_)
    · refine (hit_end hv h).2 ⟨i, h1, ?_, h2⟩
      rw [no9_hdf hv h h1 he, hdf_eq hv h h3, head_hdf hv h he h3.lt.2.2]
    · rw [← head_hdf hv h ha h3.lt.2.2, ← head_hdf hv h hb k3.lt.2.2]
      exact (no9_hdf hv h ha hb).1 e
/-- As many heads as blocks. -/
theorem heads_ct (hv : Si.Val n es) (h : VF n es s) : cnt (fun e => head es s e) es.length = ct9 es := by
  unfold ct9
  rw [cntB_eq, cntTo_cnt]
  refine Nat.le_antisymm ?_ ?_
  · refine cnt_inj (f := m9 es) (fun e he hh => ⟨(m9_mem he).1, by simpa using m9_norm.idem e he⟩) (fun a b ha hb h1 h2 e => ?_)
    rw [← head_hdf hv h ha h1, ← head_hdf hv h hb h2]
    exact (no9_hdf hv h ha hb).1 ((no9_iff ha hb).2 e)
  · refine cnt_inj (f := hdf es s) (fun e he hh => ⟨(hdf_of hv h he).lt.2.1, (hdf_of hv h he).lt.2.2⟩) (fun a b ha hb h1 h2 e => ?_)
    have h1 : m9 es a = a := by simpa using h1
    have h2 : m9 es b = b := by simpa using h2
    rw [← h1, ← h2]
    exact (no9_iff ha hb).1 ((no9_hdf hv h ha hb).2 e)
/-- A vertex without edges. -/
theorem met_iff (hv : Si.Val n es) (h : VF n es s) : Co.met es v = true ↔ ∃ i, i < es.length ∧ endAt es s i v := by
  unfold Co.met
  rw [List.any_eq_true]
  constructor
  · rintro ⟨p, hp, h1⟩
    obtain ⟨i, hi⟩ := List.getElem?_of_mem hp
    exact ⟨i, (List.getElem?_eq_some_iff.1 hi).1, (at_end hv h hi).1 (by simpa using h1)⟩
  · rintro ⟨i, h1, h2⟩
    obtain ⟨p, hp⟩ := edge_of h1
    exact ⟨p, List.mem_of_getElem? hp, by simpa using (at_end hv h hp).2 h2⟩
theorem iso_roots (hv : Si.Val n es) (h : VF n es s) : cnt (fun v => ¬ hangs es s v) n = cnt (fun v => ¬ hangs es s v ∧ 0 < hc es s v) n + Co.iso n es := by
  unfold Co.iso
  rw [cntTo_cnt, ← cnt_or]
  · refine cnt_congr fun v hvn => ?_
    constructor
    · intro hr
      by_cases hm : Co.met es v = true
      · obtain ⟨i, h1, h2⟩ := (met_iff hv h).1 hm
        exact .inl ⟨hr, root_begins hv h h1 h2 hr⟩
      · exact .inr (by simpa using hm)
    · rintro (⟨hr, _⟩ | hm)
      · exact hr
      · rintro ⟨p, hp, _, hg⟩
        have := (met_iff hv h).2 ⟨p, hp, .inr hg⟩
        rw [this] at hm
        cases hm
  · rintro v hvn ⟨⟨hr, hc0⟩, hm⟩
    have : ∃ c, c < es.length ∧ head es s c ∧ fr es s c = v := by
      classical
      by_cases hx : ∃ c, c < es.length ∧ head es s c ∧ fr es s c = v
      · exact hx
      · have h0 : hc es s v = 0 := cnt_none fun e he hh => hx ⟨e, he, hh⟩
        omega
    obtain ⟨c, h1, _, h2⟩ := this
    have := (met_iff hv h).2 ⟨c, h1, .inl h2⟩
    rw [this] at hm
    cases hm
/-- The sum over the block tree. -/
theorem tree_sum (hv : Si.Val n es) (h : VF n es s) : (sumTo (fun v => inB es (no9 es) (v : Int) (ct9 es) - 1) n : Int) = (ct9 es : Int) - ((Co.cnt n (Co.ofG n es) : Int) - (Co.iso n es : Int)) := by
  have h1 := sum_blocks hv h
  have h2 := comps_roots hv h (Co.ofG_gen n es)
  have h3 := iso_roots hv h
  have h4 : Co.cnt n (Co.ofG n es) = cnt (fun a => Co.ofG n es a = a) n := by
    unfold Co.cnt
    rw [cntTo_cnt]
    exact cnt_congr fun a _ => by simp
  rw [heads_ct hv h] at h1
  rw [sumTo_congr n (fun v _ => by rw [in_heads hv h])]
  omega
end
end Bl
end Go.Proofs.Ytalfpbalekbinaa
