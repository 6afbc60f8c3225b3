/-
  Going along Out from the roots, pure: what is seen, what waits on the way.
-/
import Derived.Test.YtmgoahbloppdmaaMg21
namespace Go.Proofs.Ytmgoahbloppdmaa
namespace Lo
open Df

/-- How many are true. -/
def ct : List Bool → Nat
  | [] => 0
  | b :: l => (if b = true then 1 else 0) + ct l
theorem ct_le : ∀ l : List Bool, ct l ≤ l.length
  | [] => Nat.le_refl _
  | b :: l => by
    have := ct_le l
    show (if b = true then 1 else 0) + ct l ≤ l.length + 1
    split <;> omega
theorem ct_all : ∀ l : List Bool, (∀ i, i < l.length → l.getD i false = true) → ct l = l.length
  | [], _ => rfl
  | b :: l, h => by
    have h0 : b = true := h 0 (by simp)
    have := ct_all l (fun i hi => h (i + 1) (by simp; omega))
    show (if b = true then 1 else 0) + ct l = l.length + 1
    rw [if_pos h0]
    omega
theorem ct_none : ∀ n : Nat, ct (List.replicate n false) = 0
  | 0 => rfl
  | n + 1 => by
    show (if false = true then 1 else 0) + ct (List.replicate n false) = 0
    rw [ct_none n]
    rfl
theorem ct_set : ∀ (l : List Bool) (i : Nat), i < l.length → l.getD i false = false → ct (l.set i true) = ct l + 1
  | [], i, h, _ => by simp at h
  | b :: l, 0, _, h => by
    have h : b = false := h
    subst h
    show (if true = true then 1 else 0) + ct l = (if false = true then 1 else 0) + ct l + 1
    simp
    omega
  | b :: l, i + 1, h, h0 => by
    have := ct_set l i (by simpa using h) h0
    show (if b = true then 1 else 0) + ct (l.set i true) = (if b = true then 1 else 0) + ct l + 1
    omega
theorem seen_set {l : List Bool} {i : Nat} (hi : i < l.length) (u : Nat) : (l.set i true).getD u false = if u = i then true else l.getD u false := by
  rw [List.getD_eq_getElem?_getD, List.getElem?_set]
  by_cases e : i = u
  · rw [if_pos e, if_pos hi, if_pos e.symm]; rfl
  · rw [if_neg e, if_neg (fun h => e h.symm), List.getD_eq_getElem?_getD]

/-- Is it seen? -/
abbrev sn (S : List Bool) (v : Nat) : Prop := S.getD v false = true

/-- The roots below k are on the way, and no one else is seen. -/
structure RA (n : Nat) (s : St) (S : List Bool) (R : List Nat) (k : Nat) : Prop where
  len : S.length = n
  nd : R.Nodup
  mem : ∀ v, v ∈ R ↔ v < k ∧ at_ s.par v < 0
  seen : ∀ v, sn S v ↔ v ∈ R
  cnt : R.length = ct S

/-- Of what is seen R waits; c have been taken; where those lead is seen. -/
structure RB (n : Nat) (es : List (Int × Int)) (s : St) (S : List Bool) (R : List Nat) (c : Nat) : Prop where
  len : S.length = n
  nd : R.Nodup
  inS : ∀ v ∈ R, v < n ∧ sn S v
  cnt : c + R.length = ct S
  roots : ∀ v, v < n → at_ s.par v = -1 → sn S v
  shut : ∀ k, k < es.length → sn S (fr es s k) → fr es s k ∉ R → sn S (go_ es s k)

/-- So too while those of L, where v leads, are gone through, i of them done. -/
structure RI (n : Nat) (es : List (Int × Int)) (s : St) (S : List Bool) (R : List Nat) (c v : Nat) (L : List Int) (i : Nat) : Prop where
  len : S.length = n
  nd : R.Nodup
  inS : ∀ v ∈ R, v < n ∧ sn S v
  cnt : c + R.length = ct S
  roots : ∀ v, v < n → at_ s.par v = -1 → sn S v
  me : sn S v ∧ v ∉ R
  shut : ∀ k, k < es.length → sn S (fr es s k) → fr es s k ∉ R → (fr es s k = v → at_ s.ori k ∈ L.take i) → sn S (go_ es s k)

section
variable {n : Nat} {es : List (Int × Int)} {s : St} {S : List Bool} {R : List Nat} {c v k i : Nat} {L : List Int}

theorem RA.start (n : Nat) (s : St) : RA n s (List.replicate n false) [] 0 :=
  ⟨by simp, List.nodup_nil, fun v => by simp, fun v => by simp [sn, List.getD_eq_getElem?_getD, List.getElem?_replicate]; split <;> simp, by rw [ct_none]; rfl⟩
theorem RA.pass (h : RA n s S R k) (hp : ¬ at_ s.par k < 0) : RA n s S R (k + 1) := by
  refine ⟨h.len, h.nd, fun v => ?_, h.seen, h.cnt⟩
  rw [h.mem]
  constructor
  · exact fun ⟨a, b⟩ => ⟨by omega, b⟩
  · rintro ⟨a, b⟩
    by_cases e : v = k
    · rw [e] at b; exact absurd b hp
    · exact ⟨by omega, b⟩
theorem RA.put (h : RA n s S R k) (hk : k < n) (hp : at_ s.par k < 0) : RA n s (S.set k true) (R ++ [k]) (k + 1) := by
  have hnk : k ∉ R := fun hm => by have := ((h.mem k).1 hm).1; omega
  have hns : S.getD k false = false := by
    cases hc : S.getD k false
    · rfl
    · exact absurd ((h.seen k).1 hc) hnk
  refine ⟨by rw [List.length_set]; exact h.len, ?_, fun v => ?_, fun v => ?_, ?_⟩
  · rw [List.nodup_append]
    refine ⟨h.nd, by simp, fun a ha b hb => ?_⟩
    rw [List.mem_singleton] at hb
    subst hb
    intro e
    subst e
    exact hnk ha
  · rw [List.mem_append, h.mem, List.mem_singleton]
    constructor
    · rintro (⟨a, b⟩ | rfl)
      · exact ⟨by omega, b⟩
      · exact ⟨by omega, hp⟩
    · rintro ⟨a, b⟩
      by_cases e : v = k
      · exact .inr e
      · exact .inl ⟨by omega, b⟩
  · unfold sn
    rw [seen_set (by rw [h.len]; exact hk), List.mem_append, List.mem_singleton]
    by_cases e : v = k
    · rw [if_pos e]; exact ⟨fun _ => .inr e, fun _ => rfl⟩
    · rw [if_neg e]
      exact ⟨fun hs => .inl ((h.seen v).1 hs), fun hs => hs.elim (h.seen v).2 (fun e' => absurd e' e)⟩
  · rw [List.length_append, ct_set S k (by rw [h.len]; exact hk) hns, h.cnt]
    rfl
theorem RA.done (h : RA n s S R n) : RB n es s S R 0 :=
  ⟨h.len, h.nd, fun v hv => ⟨((h.mem v).1 hv).1, (h.seen v).2 hv⟩, by rw [h.cnt]; omega, fun v hv hp => (h.seen v).2 ((h.mem v).2 ⟨hv, by omega⟩), fun k _ hs hn => absurd ((h.seen _).1 hs) hn⟩

theorem RB.few (h : RB n es s S R c) : c + R.length ≤ n := by
  have := ct_le S
  rw [h.cnt, ← h.len]
  exact this
theorem RB.pop (h : RB n es s S (R ++ [v]) c) : RI n es s S R (c + 1) v L 0 := by
  have hnd := h.nd
  rw [List.nodup_append] at hnd
  refine ⟨h.len, hnd.1, fun u hu => h.inS u (List.mem_append_left _ hu), ?_, h.roots, ⟨(h.inS v (by simp)).2, fun hm => hnd.2.2 v hm v (by simp) rfl⟩, fun k hk hs hn hv => ?_⟩
  · have := h.cnt
    rw [List.length_append] at this
    simp at this
    omega
  · by_cases e : fr es s k = v
    · have := hv e
      simp at this
    · refine h.shut k hk hs fun hm => ?_
      rcases List.mem_append.1 hm with hm | hm
      · exact hn hm
      · exact e (List.mem_singleton.1 hm)

theorem RI.pass (hVF : VF n es s) (h : RI n es s S R c v L i) {b : Nat} (hb : b < es.length) (hL : L[i]? = some (at_ s.ori b)) (hw : sn S (go_ es s b)) : RI n es s S R c v L (i + 1) := by
  refine ⟨h.len, h.nd, h.inS, h.cnt, h.roots, h.me, fun k hk hs hn hv => ?_⟩
  by_cases e : k = b
  · rw [e]; exact hw
  · refine h.shut k hk hs hn fun hf => ?_
    have hm := hv hf
    rw [List.take_add_one, hL] at hm
    rcases List.mem_append.1 hm with hm | hm
    · exact hm
    · have he : at_ s.ori k = at_ s.ori b := by simpa using hm
      have h1 := (ori_half hVF hk).1
      have h2 := (ori_half hVF hb).1
      rw [he] at h1
      omega

theorem RI.put (hVF : VF n es s) (h : RI n es s S R c v L i) {b : Nat} (hb : b < es.length) (hL : L[i]? = some (at_ s.ori b)) (hwn : go_ es s b < n) (hw : S.getD (go_ es s b) false = false) : RI n es s (S.set (go_ es s b) true) (R ++ [go_ es s b]) c v L (i + 1) := by
  have hlt : go_ es s b < S.length := by rw [h.len]; exact hwn
  have up : ∀ u, sn S u → sn (S.set (go_ es s b) true) u := fun u hu => by
    unfold sn
    rw [seen_set hlt]
    split
    · rfl
    · exact hu
  have hnr : go_ es s b ∉ R := fun hm => by
    have := (h.inS _ hm).2
    unfold sn at this
    rw [hw] at this
    cases this
  refine ⟨by rw [List.length_set]; exact h.len, ?_, fun u hu => ?_, ?_, fun u hu hp => up u (h.roots u hu hp), ⟨up _ h.me.1, fun hm => ?_⟩, fun k hk hs hn hv => ?_⟩
  · rw [List.nodup_append]
    refine ⟨h.nd, by simp, fun a ha b' hb' => ?_⟩
    rw [List.mem_singleton] at hb'
    subst hb'
    intro e
    subst e
    exact hnr ha
  · rcases List.mem_append.1 hu with hu | hu
    · exact ⟨(h.inS u hu).1, up u (h.inS u hu).2⟩
    · rw [List.mem_singleton.1 hu]
      refine ⟨hwn, ?_⟩
      unfold sn
      rw [seen_set hlt, if_pos rfl]
  · have := h.cnt
    rw [List.length_append, ct_set S _ hlt hw]
    simp
    omega
  · rcases List.mem_append.1 hm with hm | hm
    · exact h.me.2 hm
    · have h1 := h.me.1
      unfold sn at h1
      rw [List.mem_singleton.1 hm, hw] at h1
      cases h1
  · have hne : fr es s k ≠ go_ es s b := fun e => hn (by rw [e]; simp)
    have hs' : sn S (fr es s k) := by
      unfold sn at hs
      rw [seen_set hlt, if_neg hne] at hs
      exact hs
    have hn' : fr es s k ∉ R := fun hm => hn (List.mem_append_left _ hm)
    by_cases e : k = b
    · rw [e]
      unfold sn
      rw [seen_set hlt, if_pos rfl]
    · refine up _ (h.shut k hk hs' hn' fun hf => ?_)
      have hm := hv hf
      rw [List.take_add_one, hL] at hm
      rcases List.mem_append.1 hm with hm | hm
      · exact hm
      · have he : at_ s.ori k = at_ s.ori b := by simpa using hm
        have h1 := (ori_half hVF hk).1
        have h2 := (ori_half hVF hb).1
        rw [he] at h1
        omega

theorem RI.done (hv' : Si.Val n es) (hVF : VF n es s) (hL : (outTo n es s es.length)[v]? = some L) (h : RI n es s S R c v L L.length) : RB n es s S R c :=
  ⟨h.len, h.nd, h.inS, h.cnt, h.roots, fun k hk hs hn => h.shut k hk hs hn fun hf => by
    rw [List.take_length]
    exact (outTo_mem hv' hVF es.length (Nat.le_refl _) v L hL _).2 ⟨k, hk, hf, rfl⟩⟩

theorem RB.all (hVF : VF n es s) (h : RB n es s S [] c) : c = n := by
  have hall := from_roots hVF (fun v => sn S v) h.roots (fun k hk _ hp => h.shut k hk hp (by simp))
  have := ct_all S (fun i hi => hall i (by rw [← h.len]; exact hi))
  have h2 := h.cnt
  rw [this, h.len] at h2
  simpa using h2
end
end Lo
end Go.Proofs.Ytmgoahbloppdmaa
