/-
  Rotations told by vertices, pure: the half-edge between two vertices; what From finds first.
-/
import Derived.Test.YtloabkgojopeaaaMg01
namespace Go.Proofs.Ytloabkgojopeaaa
namespace Ro

/-- The half-edge below k from u to v, or none. -/
def half (es : List (Int × Int)) (u : Nat) (v : Int) : Nat → Option Nat
  | 0 => none
  | k + 1 => match half es u v k with
    | some h => some h
    | none => if Cs.fr es k = u ∧ (Cs.to es k : Int) = v then some k else none

theorem half_some {es : List (Int × Int)} {u : Nat} {v : Int} : ∀ {k h : Nat}, half es u v k = some h → h < k ∧ Cs.fr es h = u ∧ (Cs.to es h : Int) = v
  | k + 1, h, hh => by
    unfold half at hh
    split at hh
    · rename_i h' e
      cases hh
      have := half_some e
      exact ⟨by omega, this.2⟩
    · split at hh
      · rename_i hc
        cases hh
        exact ⟨by omega, hc⟩
      · cases hh

theorem half_none {es : List (Int × Int)} {u : Nat} {v : Int} : ∀ {k : Nat}, half es u v k = none → ∀ h, h < k → ¬ (Cs.fr es h = u ∧ (Cs.to es h : Int) = v)
  | 0, _, h, hk => by omega
  | k + 1, hh, h, hk => by
    unfold half at hh
    split at hh
    · cases hh
    · rename_i e
      split at hh
      · cases hh
      · rename_i hc
        by_cases e2 : h = k
        · subst e2; exact hc
        · exact half_none e h (by omega)

/-- Two half-edges of a valid graph with the same ends are one. -/
theorem half_one {n : Nat} {es : List (Int × Int)} (hv : Si.Val n es) {i j : Nat} (hi : i < 2 * es.length) (hj : j < 2 * es.length) (h1 : Cs.fr es i = Cs.fr es j) (h2 : Cs.to es i = Cs.to es j) : i = j := by
  obtain ⟨e, he, hoe, hpe⟩ := half_edge hv hi
  obtain ⟨f, hf, hof, hpf⟩ := half_edge hv hj
  have hinj : ∀ {a b : Nat} {p q : Int × Int}, es[a]? = some p → es[b]? = some q → p = q → a = b := fun {a b p q} ha hb hpq => by
    subst hpq
    exact hv.place ha hb
  unfold Si.ok at hoe hof
  obtain ⟨e1, e2⟩ := e
  obtain ⟨f1, f2⟩ := f
  dsimp only at hpe hpf hoe hof
  rcases hpe with ⟨m1, a1, a2⟩ | ⟨m1, a1, a2⟩ <;> rcases hpf with ⟨m2, b1, b2⟩ | ⟨m2, b1, b2⟩
  · have := hinj he hf (by rw [show e1 = f1 by omega, show e2 = f2 by omega])
    omega
  · omega
  · omega
  · have := hinj he hf (by rw [show e1 = f1 by omega, show e2 = f2 by omega])
    omega

/-- The half-edge from v to x, or -1. -/
def hl (es : List (Int × Int)) (v : Nat) (x : Int) : Int := match half es v x (2 * es.length) with
  | some h => (h : Int)
  | none => -1

/-- The lists of half-edges that are told by vertices, from vertex k on. -/
def hls (es : List (Int × Int)) : Nat → List (List Int) → List (List Int)
  | _, [] => []
  | k, l :: ls => l.map (hl es k) :: hls es (k + 1) ls

theorem hls_len (es : List (Int × Int)) : ∀ (k : Nat) (ls : List (List Int)), (hls es k ls).length = ls.length
  | _, [] => rfl
  | k, l :: ls => by simp [hls, hls_len es (k + 1) ls]

theorem hls_at {es : List (Int × Int)} : ∀ {k : Nat} {ls : List (List Int)} {v : Nat} {l : List Int}, ls[v]? = some l → (hls es k ls)[v]? = some (l.map (hl es (k + v)))
  | k, a :: ls, 0, l, h => by
    simp at h
    subst h
    simp [hls]
  | k, a :: ls, v + 1, l, h => by
    have := hls_at (es := es) (k := k + 1) (ls := ls) (v := v) (l := l) (by simpa using h)
    rw [show k + 1 + v = k + (v + 1) by omega] at this
    simpa [hls] using this

theorem hl_lv {es : List (Int × Int)} {v : Nat} {x : Int} {h : Nat} (hh : half es v x (2 * es.length) = some h) : hl es v x = (h : Int) ∧ lv es (h : Int) v = true ∧ h < 2 * es.length := by
  obtain ⟨h1, h2, h3⟩ := half_some hh
  refine ⟨by unfold hl; rw [hh], lv_of h1 h2, h1⟩
theorem hl_no {es : List (Int × Int)} {v : Nat} {x : Int} (hh : half es v x (2 * es.length) = none) : hl es v x = -1 ∧ lv es (-1) v = false := by
  refine ⟨by unfold hl; rw [hh], by simp [lv]⟩

/-- The half-edge to x, if it leaves v and leads to x. -/
theorem hl_of {n : Nat} {es : List (Int × Int)} (hv : Si.Val n es) {v h : Nat} {x : Int} (hh : h < 2 * es.length) (h1 : Cs.fr es h = v) (h2 : (Cs.to es h : Int) = x) : half es v x (2 * es.length) = some h := by
  cases e : half es v x (2 * es.length) with
  | none => exact absurd ⟨h1, h2⟩ (half_none e h hh)
  | some k =>
    obtain ⟨k1, k2, k3⟩ := half_some e
    rw [half_one hv k1 hh (by omega) (by omega)]

theorem hl_inj {es : List (Int × Int)} {v : Nat} {x y : Int} {h : Nat} (hh : half es v x (2 * es.length) = some h) (e : hl es v y = (h : Int)) : x = y := by
  cases ey : half es v y (2 * es.length) with
  | none => rw [(hl_no ey).1] at e; omega
  | some k =>
    rw [(hl_lv ey).1] at e
    have e2 : k = h := by omega
    subst e2
    have h1 := (half_some hh).2.2
    have h2 := (half_some ey).2.2
    omega

theorem hl_mem {es : List (Int × Int)} {v : Nat} {x : Int} {h : Nat} {pre : List Int} (hh : half es v x (2 * es.length) = some h) : (h : Int) ∈ pre.map (hl es v) ↔ x ∈ pre := by
  constructor
  · intro hm
    obtain ⟨y, hy, e⟩ := List.mem_map.1 hm
    rw [hl_inj hh e]
    exact hy
  · intro hm
    rw [← (hl_lv hh).1]
    exact List.mem_map.2 ⟨x, hm, rfl⟩

end Ro
end Go.Proofs.Ytloabkgojopeaaa
