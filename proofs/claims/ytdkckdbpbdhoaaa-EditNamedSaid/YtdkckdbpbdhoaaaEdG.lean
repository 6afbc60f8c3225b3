/-
  Graphs out of graphs, pure: other names, and back; bare graphs.
-/
import Derived.Test.YtdkckdbpbdhoaaaEdF
namespace Go.Proofs.Ytdkckdbpbdhoaaa
namespace Ed
open Si

/-! ## Relabel there and back -/

/-- A list of all of 0 .. m - 1, each once. -/
def Perm (m : Nat) (l : List Int) : Prop := Once (m : Int) l ∧ l.length = m

theorem perm_pl {m : Nat} {l : List Int} (h : Perm m l) : Perm m (pl m l) := by
  refine ⟨⟨fun x hx => ?_, ?_⟩, pl_length m l⟩
  · obtain ⟨v, hv, e⟩ := List.mem_iff_getElem.1 hx
    rw [pl_length] at hv
    have hx' : (pl m l)[v]? = some x := by rw [← e]; exact List.getElem?_eq_getElem _
    rcases pl_at h.1 hx' with ⟨_, hn⟩ | ⟨i, rfl, hi⟩
    · exfalso
      -- every number below m stands in l
      have hall : ∀ y : Nat, y < m → (y : Int) ∈ l := fun y hy => by
        refine Classical.byContradiction fun hny => ?_
        have hcons : Once (m : Int) ((y : Int) :: l) := ⟨fun z hz => by
          rcases List.mem_cons.1 hz with rfl | hz
          · omega
          · exact h.1.1 z hz, List.nodup_cons.2 ⟨hny, h.1.2⟩⟩
        have := once_few hcons
        rw [List.length_cons, h.2] at this
        omega
      exact hn (hall v hv)
    · have := (List.getElem?_eq_some_iff.1 hi).1
      rw [h.2] at this
      omega
  · rw [List.nodup_iff_pairwise_ne, List.pairwise_iff_getElem]
    intro i j hi hj hij e
    have hi' : (pl m l)[i]? = some (pl m l)[i] := List.getElem?_eq_getElem hi
    have hj' : (pl m l)[j]? = some (pl m l)[i] := by rw [e]; exact List.getElem?_eq_getElem hj
    rcases pl_at h.1 hi' with ⟨_, hn⟩ | ⟨a, ea, ha⟩
    · exfalso
      have hcons : Once (m : Int) ((i : Int) :: l) := ⟨fun z hz => by
        rcases List.mem_cons.1 hz with rfl | hz
        · rw [pl_length] at hi; omega
        · exact h.1.1 z hz, List.nodup_cons.2 ⟨hn, h.1.2⟩⟩
      have := once_few hcons
      rw [List.length_cons, h.2] at this
      omega
    · have := pl_inj h.1 i j _ hi' hj' (by omega)
      omega

theorem nth_of {l : List Int} {v : Int} (h0 : 0 ≤ v) (h1 : v < (l.length : Int)) : l[v.toNat]? = some (nth l v) := by
  unfold nth
  rw [List.getD_eq_getElem?_getD, List.getElem?_eq_getElem (show v.toNat < l.length by omega)]
  rfl
theorem perm_nth {m : Nat} {l : List Int} (h : Perm m l) {v : Int} (h0 : 0 ≤ v) (h1 : v < (m : Int)) : 0 ≤ nth l v ∧ nth l v < (m : Int) := by
  have := nth_of (l := l) h0 (by rw [h.2]; exact h1)
  exact h.1.1 _ (List.mem_of_getElem? this)
/-- The places undo the names. -/
theorem pl_nth {m : Nat} {l : List Int} (h : Perm m l) {v : Int} (h0 : 0 ≤ v) (h1 : v < (m : Int)) : nth (pl m l) (nth l v) = v := by
  obtain ⟨k0, k1⟩ := perm_nth h h0 h1
  have e1 := nth_of (l := l) h0 (by rw [h.2]; exact h1)
  have e2 := pl_of h.1 (i := v.toNat) (v := (nth l v).toNat) (by rw [e1]; congr 1; omega)
  have e3 := nth_at e2
  rw [show (((nth l v).toNat : Nat) : Int) = nth l v by omega] at e3
  rw [e3]
  omega

theorem once_inj {n : Int} {l : List Int} (h : Once n l) : Inj l := by
  intro i j x hi hj _
  obtain ⟨a, ea⟩ := List.getElem?_eq_some_iff.1 hi
  obtain ⟨b, eb⟩ := List.getElem?_eq_some_iff.1 hj
  exact (List.getElem_inj h.2).1 (ea.trans eb.symm)

theorem named_val {m : Nat} {n : Int} {es : List (Int × Int)} {ns : List Int} (hv : Val n es) (hn : (ns.length : Int) = n) (hi : Inj ns) (hm : m ≤ 1048576) (hb : ∀ x ∈ ns, x < (m : Int)) : Val (m : Int) (named ns es) := by
  have hf := val_fits hv hn
  refine val_of (by omega) (by omega) ?_ (fun p hp => ?_) (named_sorted _ _)
  · rw [named_length hi hf (sorted_nodup (sorted_of_val hv))]
    exact Nat.le_trans (pr_length _ _) hv.few
  · obtain ⟨q, hq, h1, h2, rfl⟩ := (mem_named hi hf).1 hp
    have hne := names_ne hi hf hq h1
    have hok := val_ok hv hq
    unfold ok at hok
    have b1 := hb _ (List.mem_of_getElem? (nth_of (l := ns) (v := q.1) hok.1 (by omega)))
    have b2 := hb _ (List.mem_of_getElem? (nth_of (l := ns) (v := q.2) (by omega) (by omega)))
    unfold ok norm
    dsimp only
    omega

theorem relabel_yes {m : Nat} {es : List (Int × Int)} {l : List Int} (hv : Val (m : Int) es) (h : Perm m l) : relabel (m : Int) es l = ((m : Int), named l es, 0) := by
  unfold relabel
  rw [if_neg (not_false hv), if_neg (fun hh => hh ⟨h.1, by rw [h.2]⟩)]
theorem relabel_no {n : Int} {es : List (Int × Int)} {l : List Int} (hv : Val n es) (h : ¬ (Once n l ∧ (l.length : Int) = n)) : relabel n es l = (0, [], 2) := by
  unfold relabel
  rw [if_neg (not_false hv), if_pos h]
theorem relabel_val {m : Nat} {es : List (Int × Int)} {l : List Int} (hv : Val (m : Int) es) (h : Perm m l) : Val (m : Int) (named l es) :=
  named_val hv (by rw [h.2]) (once_inj h.1) (by have := hv.hi; omega) (fun x hx => (h.1.1 x hx).2)
theorem relabel_len {m : Nat} {es : List (Int × Int)} {l : List Int} (hv : Val (m : Int) es) (h : Perm m l) : (named l es).length = es.length := by
  have hf : Fits l es := val_fits hv (by rw [h.2])
  rw [named_length (once_inj h.1) hf (sorted_nodup (sorted_of_val hv))]
  unfold pr
  rw [List.filter_eq_self.2, List.length_map]
  intro q hq
  obtain ⟨p, hp, rfl⟩ := List.mem_map.1 hq
  have hok := val_ok hv hp
  unfold ok at hok
  have h1 := perm_nth h hok.1 (by omega)
  have h2 := perm_nth h (v := p.2) (by omega) hok.2.2
  simp [okq, h1.1, h2.1]

theorem norm_norm {f : Int → Int} {a b : Int} : norm (f (norm (a, b)).1, f (norm (a, b)).2) = norm (f a, f b) := by
  unfold norm
  dsimp only
  rcases Int.le_total a b with h | h
  · rw [Int.min_eq_left h, Int.max_eq_right h]
  · rw [Int.min_eq_right h, Int.max_eq_left h, Int.min_comm, Int.max_comm]

/-- Renamed by the places it is the graph again. -/
theorem relabel_back {m : Nat} {es : List (Int × Int)} {l : List Int} (hv : Val (m : Int) es) (h : Perm m l) : named (pl m l) (named l es) = es := by
  have hf : Fits l es := val_fits hv (by rw [h.2])
  have hi := once_inj h.1
  have hV := relabel_val hv h
  have hp := perm_pl h
  have hf2 : Fits (pl m l) (named l es) := val_fits hV (by rw [pl_length])
  refine sorted_ext (named_sorted _ _) (sorted_of_val hv) fun e => ?_
  rw [mem_named (pl_inj h.1) hf2]
  constructor
  · rintro ⟨q, hq, h1, h2, rfl⟩
    obtain ⟨p, hpm, k1, k2, rfl⟩ := (mem_named hi hf).1 hq
    have hok := val_ok hv hpm
    unfold ok at hok
    rw [norm_norm (f := nth (pl m l)), pl_nth h hok.1 (by omega), pl_nth h (by omega) hok.2.2]
    have : norm (p.1, p.2) = p := by unfold norm; ext <;> simp <;> omega
    rw [this]
    exact hpm
  · intro he
    have hok := val_ok hv he
    unfold ok at hok
    have a1 := perm_nth h hok.1 (by omega)
    have a2 := perm_nth h (v := e.2) (by omega) hok.2.2
    refine ⟨_, (mem_named hi hf).2 ⟨e, he, a1.1, a2.1, rfl⟩, ?_, ?_, ?_⟩
    · unfold norm
      dsimp only
      rcases Int.le_total (nth l e.1) (nth l e.2) with hh | hh
      · rw [Int.min_eq_left hh, pl_nth h hok.1 (by omega)]; exact hok.1
      · rw [Int.min_eq_right hh, pl_nth h (by omega) hok.2.2]; omega
    · unfold norm
      dsimp only
      rcases Int.le_total (nth l e.1) (nth l e.2) with hh | hh
      · rw [Int.max_eq_right hh, pl_nth h (by omega) hok.2.2]; omega
      · rw [Int.max_eq_left hh, pl_nth h hok.1 (by omega)]; exact hok.1
    · rw [norm_norm (f := nth (pl m l)), pl_nth h hok.1 (by omega), pl_nth h (by omega) hok.2.2]
      unfold norm
      ext <;> simp <;> omega

end Ed
end Go.Proofs.Ytdkckdbpbdhoaaa
