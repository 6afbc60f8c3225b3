/-
  The finder, pure: chains of half-edges that leave a vertex; what was told last to lead where.
-/
import Derived.Test.YtloabkgojopeaaaRoF
namespace Go.Proofs.Ytloabkgojopeaaa
namespace Ro

/-- The last half-edge below k that leaves v, or -1. -/
def lo (es : List (Int × Int)) (v : Nat) : Nat → Int
  | 0 => -1
  | k + 1 => if Cs.fr es k = v then (k : Int) else lo es v k

theorem lo_spec (es : List (Int × Int)) (v : Nat) : ∀ k, (lo es v k = -1 ∧ ∀ h, h < k → Cs.fr es h ≠ v) ∨ ∃ h : Nat, lo es v k = (h : Int) ∧ h < k ∧ Cs.fr es h = v ∧ ∀ j, h < j → j < k → Cs.fr es j ≠ v
  | 0 => .inl ⟨rfl, fun h hh => by omega⟩
  | k + 1 => by
    unfold lo
    by_cases hk : Cs.fr es k = v
    · rw [if_pos hk]
      exact .inr ⟨k, rfl, by omega, hk, fun j h1 h2 => by omega⟩
    · rw [if_neg hk]
      rcases lo_spec es v k with ⟨h1, h2⟩ | ⟨h, h1, h2, h3, h4⟩
      · refine .inl ⟨h1, fun h hh => ?_⟩
        by_cases e : h = k
        · subst e; exact hk
        · exact h2 h (by omega)
      · refine .inr ⟨h, h1, by omega, h3, fun j hj1 hj2 => ?_⟩
        by_cases e : j = k
        · subst e; exact hk
        · exact h4 j hj1 (by omega)

/-- The lists of the finder once k half-edges have been gone by. -/
structure Fi (n : Nat) (es : List (Int × Int)) (F An : List Int) (k : Nat) : Prop where
  lf : F.length = n
  la : An.length = 2 * es.length
  first : ∀ v, v < n → F[v]? = some (lo es v k)
  another : ∀ h, h < k → An[h]? = some (lo es (Cs.fr es h) h)

theorem Fi.start (n : Nat) (es : List (Int × Int)) : Fi n es (List.replicate n (-1)) (List.replicate (2 * es.length) 0) 0 :=
  ⟨by simp, by simp, fun v hv => by rw [List.getElem?_replicate, if_pos hv]; rfl, fun h hh => by omega⟩

theorem Fi.step {n : Nat} {es : List (Int × Int)} (hv : Si.Val n es) {F An : List Int} {k : Nat} (h : Fi n es F An k) (hk : k < 2 * es.length) : Fi n es (F.set (Cs.fr es k) (k : Int)) (An.set k (lo es (Cs.fr es k) k)) (k + 1) := by
  have hf := (Cs.half_lt hv hk).1
  refine ⟨by rw [List.length_set]; exact h.lf, by rw [List.length_set]; exact h.la, fun v hvn => ?_, fun j hj => ?_⟩
  · rw [List.getElem?_set]
    unfold lo
    by_cases e : Cs.fr es k = v
    · rw [if_pos e, if_pos (by rw [h.lf]; exact hf), if_pos e]
    · rw [if_neg e, if_neg e]
      exact h.first v hvn
  · rw [List.getElem?_set]
    by_cases e : k = j
    · subst e
      rw [if_pos rfl, if_pos (by rw [h.la]; exact hk)]
    · rw [if_neg e]
      exact h.another j (by omega)

/-- What leads where, once v's half-edges from k on have been told (those of the vertices below v are of no matter). -/
structure Ld (n : Nat) (es : List (Int × Int)) (v k : Nat) (D : List Int) : Prop where
  len : D.length = n
  each : ∀ x, x < n → D[x]? = some (-1) ∨ ∃ h : Nat, D[x]? = some (h : Int) ∧ h < 2 * es.length ∧ Cs.fr es h ≤ v ∧ Cs.to es h = x
  told : ∀ h, k ≤ h → h < 2 * es.length → Cs.fr es h = v → D[Cs.to es h]? = some (h : Int)

theorem Ld.start (n : Nat) (es : List (Int × Int)) : Ld n es 0 (2 * es.length) (List.replicate n (-1)) :=
  ⟨by simp, fun x hx => .inl (by rw [List.getElem?_replicate, if_pos hx]), fun h h1 h2 => by omega⟩

theorem Ld.next {n : Nat} {es : List (Int × Int)} {v k : Nat} {D : List Int} (h : Ld n es v k D) : Ld n es (v + 1) (2 * es.length) D :=
  ⟨h.len, fun x hx => by
    rcases h.each x hx with h1 | ⟨j, h1, h2, h3, h4⟩
    · exact .inl h1
    · exact .inr ⟨j, h1, h2, by omega, h4⟩, fun h h1 h2 => by omega⟩

theorem Ld.put {n : Nat} {es : List (Int × Int)} (hv : Si.Val n es) {v k h : Nat} {D : List Int} (hd : Ld n es v k D) (hk : k ≤ 2 * es.length) (hh : h < k) (hf : Cs.fr es h = v) (hno : ∀ j, h < j → j < k → Cs.fr es j ≠ v) : Ld n es v h (D.set (Cs.to es h) (h : Int)) := by
  have ht := (Cs.half_lt hv (show h < 2 * es.length by omega)).2
  refine ⟨by rw [List.length_set]; exact hd.len, fun x hx => ?_, fun j h1 h2 h3 => ?_⟩
  · rw [List.getElem?_set]
    by_cases e : Cs.to es h = x
    · rw [if_pos e, if_pos (by rw [hd.len]; exact ht)]
      exact .inr ⟨h, rfl, by omega, by omega, e⟩
    · rw [if_neg e]
      exact hd.each x hx
  · rw [List.getElem?_set]
    by_cases e : h = j
    · subst e
      rw [if_pos rfl, if_pos (by rw [hd.len]; exact ht)]
    · have hjk : k ≤ j := by
        rcases Nat.lt_or_ge j k with h4 | h4
        · exact absurd h3 (hno j (by omega) h4)
        · exact h4
      have hne : Cs.to es h ≠ Cs.to es j := fun e2 => e (half_one hv (by omega) h2 (by omega) e2)
      rw [if_neg hne]
      exact hd.told j hjk h2 h3

theorem Ld.done {n : Nat} {es : List (Int × Int)} {v k : Nat} {D : List Int} (hd : Ld n es v k D) (hno : ∀ h, h < k → Cs.fr es h ≠ v) : Ld n es v 0 D :=
  ⟨hd.len, hd.each, fun h h1 h2 h3 => by
    rcases Nat.lt_or_ge h k with h4 | h4
    · exact absurd h3 (hno h h4)
    · exact hd.told h h4 h2 h3⟩

/-- What to answers. -/
def toF (n : Nat) (D : List Int) (x : Int) : Int := if 0 ≤ x ∧ x < n then D.getD x.toNat 0 else -1

/-- What to answers leaves v just if there is a half-edge to x, and then it is that one. -/
theorem Ld.to {n : Nat} {es : List (Int × Int)} (hv : Si.Val n es) {v : Nat} {D : List Int} (hd : Ld n es v 0 D) (x : Int) :
    (lv es (toF n D x) v = true ∧ toF n D x = hl es v x ∧ ∃ h : Nat, half es v x (2 * es.length) = some h ∧ toF n D x = (h : Int)) ∨ (lv es (toF n D x) v = false ∧ lv es (hl es v x) v = false) := by
  cases e : half es v x (2 * es.length) with
  | some h =>
    left
    obtain ⟨h1, h2, h3⟩ := half_some e
    have ht := (Cs.half_lt hv h1).2
    have hD := hd.told h (Nat.zero_le _) h1 h2
    have hx : toF n D x = (h : Int) := by
      unfold toF
      rw [if_pos (by omega), show x.toNat = Cs.to es h by omega, List.getD_eq_getElem?_getD, hD]
      rfl
    obtain ⟨e1, e2, -⟩ := hl_lv e
    rw [hx]
    exact ⟨e2, e1.symm, h, rfl, rfl⟩
  | none =>
    right
    obtain ⟨e1, e2⟩ := hl_no e
    refine ⟨?_, by rw [e1]; exact e2⟩
    unfold toF
    by_cases hx : 0 ≤ x ∧ x < n
    · rw [if_pos hx]
      obtain ⟨y, rfl⟩ : ∃ y : Nat, x = (y : Int) := ⟨x.toNat, by omega⟩
      rw [Int.toNat_natCast, List.getD_eq_getElem?_getD]
      rcases hd.each y (by omega) with h1 | ⟨h, h1, h2, -, h5⟩
      · rw [h1]
        exact e2
      · rw [h1]
        show lv es (h : Int) v = false
        cases hlv : lv es (h : Int) v with
        | false => rfl
        | true =>
          obtain ⟨j, hj, hj2, hj3⟩ := lv_nat hlv
          have ej : j = h := by omega
          subst ej
          exact absurd ⟨hj3, by rw [h5]⟩ (half_none e j hj2)
    · rw [if_neg hx]
      exact e2

end Ro
end Go.Proofs.Ytloabkgojopeaaa
