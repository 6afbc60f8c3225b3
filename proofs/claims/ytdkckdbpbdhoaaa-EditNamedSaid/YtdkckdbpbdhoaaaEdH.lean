/-
  Graphs out of graphs, pure: the places twice; bare graphs, and again.
-/
import Derived.Test.YtdkckdbpbdhoaaaEdG
namespace Go.Proofs.Ytdkckdbpbdhoaaa
namespace Ed
open Si

/-- The places of the places are the names. -/
theorem pl_pl {m : Nat} {l : List Int} (h : Perm m l) : pl m (pl m l) = l := by
  have hp := perm_pl h
  refine List.ext_getElem? fun v => ?_
  by_cases hv : v < m
  · have e1 : l[v]? = some (nth l (v : Int)) := by
      have := nth_of (l := l) (v := (v : Int)) (by omega) (by rw [h.2]; omega)
      rwa [Int.toNat_natCast] at this
    obtain ⟨k0, k1⟩ := perm_nth h (v := (v : Int)) (by omega) (by omega)
    have e2 := pl_of h.1 (i := v) (v := (nth l (v : Int)).toNat) (by rw [e1]; congr 1; omega)
    have e3 := pl_of hp.1 e2
    rw [e3, e1]
    congr 1
    omega
  · rw [List.getElem?_eq_none (by rw [pl_length]; omega), List.getElem?_eq_none (by rw [h.2]; omega)]

/-- Induced by the places is Relabel. -/
theorem induced_pl {m : Nat} {es : List (Int × Int)} {l : List Int} (hv : Val (m : Int) es) (h : Perm m l) : induced (m : Int) es (pl m l) = relabel (m : Int) es l := by
  rw [induced_yes hv (perm_pl h).1, relabel_yes hv h, pl_pl h, pl_length]

theorem bare_yes {m : Nat} {es : List (Int × Int)} (hv : Val (m : Int) es) : bare (m : Int) es = (((bl es m).length : Int), named (pl m (bl es m)) es, 0) := by
  unfold bare
  rw [if_neg (not_false hv), Int.toNat_natCast]
theorem bareL_yes {m : Nat} {es : List (Int × Int)} (hv : Val (m : Int) es) : bareL (m : Int) es = bl es m := by
  unfold bareL
  rw [if_neg (not_false hv), Int.toNat_natCast]
theorem induced_bare {m : Nat} {es : List (Int × Int)} (hv : Val (m : Int) es) : induced (m : Int) es (bl es m) = bare (m : Int) es := by
  rw [bare_yes hv, induced_yes hv (bl_once es (Nat.le_refl m))]

theorem pl_lt {m : Nat} {l : List Int} (h : Once (m : Int) l) : ∀ x ∈ pl m l, x < (l.length : Int) := fun x hx => by
  obtain ⟨v, hv, e⟩ := List.mem_iff_getElem.1 hx
  have hx' : (pl m l)[v]? = some x := by rw [← e]; exact List.getElem?_eq_getElem _
  rcases pl_at h hx' with ⟨rfl, _⟩ | ⟨i, rfl, hi⟩
  · omega
  · have := (List.getElem?_eq_some_iff.1 hi).1
    omega
theorem induced_val {m : Nat} {es : List (Int × Int)} {l : List Int} (hv : Val (m : Int) es) (h : Once (m : Int) l) : Val (l.length : Int) (named (pl m l) es) :=
  named_val hv (by rw [pl_length]) (pl_inj h) (by have := once_few h; have := hv.hi; omega) (pl_lt h)

theorem bare_val {m : Nat} {es : List (Int × Int)} (hv : Val (m : Int) es) : Val ((bl es m).length : Int) (named (pl m (bl es m)) es) := induced_val hv (bl_once es (Nat.le_refl m))

theorem has_iff {es : List (Int × Int)} {v : Int} : has es v = true ↔ ∃ p ∈ es, p.1 = v ∨ p.2 = v := by
  unfold has
  simp [List.any_eq_true]

/-- Every vertex of a bare graph has an edge. -/
theorem bare_has {m : Nat} {es : List (Int × Int)} (hv : Val (m : Int) es) {i : Nat} (hi : i < (bl es m).length) : has (named (pl m (bl es m)) es) (i : Int) = true := by
  have ho := bl_once es (Nat.le_refl m)
  have hf : Fits (pl m (bl es m)) es := val_fits hv (by rw [pl_length])
  have hx := List.getElem?_eq_getElem hi
  obtain ⟨v, hvm, e, hh⟩ := mem_bl.1 (List.mem_of_getElem? hx)
  rw [e] at hx
  have hp := nth_at (pl_of ho hx)
  obtain ⟨p, hpm, hpv⟩ := has_iff.1 hh
  have hok := val_ok hv hpm
  unfold ok at hok
  have other : ∀ u : Int, u = p.1 ∨ u = p.2 → 0 ≤ nth (pl m (bl es m)) u := fun u hu => by
    have hu' : has es ((u.toNat : Nat) : Int) = true := has_iff.2 ⟨p, hpm, by omega⟩
    have hl := pl_bl (es := es) (m := m) (v := u.toNat) (by omega)
    rw [if_pos hu'] at hl
    have := nth_at hl
    rw [show ((u.toNat : Nat) : Int) = u by omega] at this
    rw [this]
    omega
  refine has_iff.2 ⟨_, (mem_named (pl_inj ho) hf).2 ⟨p, hpm, other _ (Or.inl rfl), other _ (Or.inr rfl), rfl⟩, ?_⟩
  unfold norm
  dsimp only
  rcases hpv with hpv | hpv
  · rw [hpv, hp]; omega
  · rw [hpv, hp]; omega

theorem bl_all {es : List (Int × Int)} : ∀ {k : Nat}, (∀ i : Nat, i < k → has es (i : Int) = true) → bl es k = fr 0 k
  | 0, _ => by simp [bl, fr]
  | k + 1, h => by
    rw [bl_succ, fr_succ, bl_all (fun i hi => h i (by omega)), if_pos (h k (by omega)), Nat.zero_add]

theorem named_all {k : Nat} {es : List (Int × Int)} (hv : Val (k : Int) es) : named (pl k (fr 0 k)) es = es :=
  named_fr (by omega) hv (sorted_of_val hv) fun e => by
    constructor
    · intro he
      have hok := val_ok hv he
      unfold ok at hok
      refine ⟨?_, hok.1, hok.2.2⟩
      rw [show (((0 : Nat) : Int) + e.1, ((0 : Nat) : Int) + e.2) = e by ext <;> simp]
      exact he
    · rintro ⟨he, _, _⟩
      rwa [show (((0 : Nat) : Int) + e.1, ((0 : Nat) : Int) + e.2) = e by ext <;> simp] at he

theorem bl_bare {m : Nat} {es : List (Int × Int)} (hv : Val (m : Int) es) : bl (named (pl m (bl es m)) es) (bl es m).length = fr 0 (bl es m).length := bl_all fun _ hi => bare_has hv hi
/-- Bare of a bare graph is the graph. -/
theorem bare_bare {m : Nat} {es : List (Int × Int)} (hv : Val (m : Int) es) : bare ((bl es m).length : Int) (named (pl m (bl es m)) es) = bare (m : Int) es := by
  rw [bare_yes (bare_val hv), bl_bare hv, fr_length, named_all (bare_val hv), bare_yes hv]

end Ed
end Go.Proofs.Ytdkckdbpbdhoaaa
