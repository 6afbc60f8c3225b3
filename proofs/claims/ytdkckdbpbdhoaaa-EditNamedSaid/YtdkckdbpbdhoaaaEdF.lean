/-
  Graphs out of graphs, pure: there and back.
-/
import Derived.Test.YtdkckdbpbdhoaaaEdE
namespace Go.Proofs.Ytdkckdbpbdhoaaa
namespace Ed
open Si

theorem not_false {n : Int} {es : List E} (hv : Val n es) : ¬ valid n es = false := by rw [valid_iff.2 hv]; simp

/-! ## Without, and With again -/
theorem without_yes {n : Int} {es : List E} (hv : Val n es) {k : Nat} (hk : k < es.length) : without n es (k : Int) = (n, es.eraseIdx k, 0) := by
  unfold without
  rw [if_neg (not_false hv), if_neg (by omega), Int.toNat_natCast]
theorem erase_val {n : Int} {es : List E} (hv : Val n es) (k : Nat) : Val n (es.eraseIdx k) :=
  val_of hv.lo hv.hi (Nat.le_trans (List.length_eraseIdx_le _ _) hv.few) (fun _ hp => val_ok hv (List.mem_of_mem_eraseIdx hp)) (erase_sorted (sorted_of_val hv) k)
theorem erase_len {es : List E} {k : Nat} (hk : k < es.length) : (es.eraseIdx k).length = es.length - 1 := by
  rw [List.length_eraseIdx, if_pos hk]
theorem put_erase {n : Int} {es : List E} (hv : Val n es) {k : Nat} {x : E} (hx : es[k]? = some x) : put (es.eraseIdx k) x = es := by
  refine sorted_ext (put_sorted _ _ (erase_sorted (sorted_of_val hv) k)) (sorted_of_val hv) fun e => ?_
  rw [mem_put, mem_eraseIdx hv hx]
  constructor
  · rintro (rfl | ⟨h, _⟩)
    · exact List.mem_of_getElem? hx
    · exact h
  · intro h
    by_cases he : e = x
    · exact .inl he
    · exact .inr ⟨h, he⟩
theorem with_erase {n : Int} {es : List E} (hv : Val n es) {k : Nat} {x : E} (hx : es[k]? = some x) : withE n (es.eraseIdx k) x = (n, es, 0) := by
  have hk : k < es.length := (List.getElem?_eq_some_iff.1 hx).1
  have h1 := erase_len hk
  have h2 := hv.few
  have hnx : x ∉ es.eraseIdx k := fun h => ((mem_eraseIdx hv hx).1 h).2 rfl
  unfold withE
  rw [if_neg (not_false (erase_val hv k)), if_neg (fun h => h (val_ok hv (List.mem_of_getElem? hx))), if_neg hnx, if_neg (by omega), put_erase hv hx]

/-! ## Divide -/
theorem divide_yes {n : Int} {es : List E} (hv : Val n es) {k : Nat} {x : E} (hx : es[k]? = some x) (h1 : n < 1048576) (h2 : es.length < 4194304) : divide n es (k : Int) = (n + 1, put (put (es.eraseIdx k) (x.1, n)) (x.2, n), 0) := by
  have hk : k < es.length := (List.getElem?_eq_some_iff.1 hx).1
  have hg : es.getD k (0, 0) = x := by rw [List.getD_eq_getElem?_getD, hx]; rfl
  unfold divide
  rw [if_neg (not_false hv), if_neg (by omega), if_neg (by omega), Int.toNat_natCast, hg]
theorem divide_len {n : Int} {es : List E} (hv : Val n es) {k : Nat} {x : E} (hx : es[k]? = some x) : (put (put (es.eraseIdx k) (x.1, n)) (x.2, n)).length = es.length + 1 := by
  have hk : k < es.length := (List.getElem?_eq_some_iff.1 hx).1
  have hs := erase_sorted (sorted_of_val hv) k
  have hok := val_ok hv (List.mem_of_getElem? hx)
  unfold ok at hok
  have hn : ∀ u, (u, n) ∉ es.eraseIdx k := fun u h => val_no_n hv u (List.mem_of_mem_eraseIdx h)
  rw [put_len _ _ (put_sorted _ _ hs), if_neg, put_len _ _ hs, if_neg (hn _), erase_len hk]
  · omega
  · rw [mem_put]
    rintro (h | h)
    · have := congrArg Prod.fst h
      dsimp only at this
      omega
    · exact hn _ h
theorem mem_divide {n : Int} {es : List E} {k : Nat} {x e : E} : e ∈ put (put (es.eraseIdx k) (x.1, n)) (x.2, n) ↔ e = (x.2, n) ∨ e = (x.1, n) ∨ e ∈ es.eraseIdx k := by rw [mem_put, mem_put]
theorem divide_val {n : Int} {es : List E} (hv : Val n es) {k : Nat} {x : E} (hx : es[k]? = some x) (h1 : n < 1048576) (h2 : es.length < 4194304) : Val (n + 1) (put (put (es.eraseIdx k) (x.1, n)) (x.2, n)) := by
  have hok := val_ok hv (List.mem_of_getElem? hx)
  have := hv.lo
  refine val_of (by omega) (by omega) (by rw [divide_len hv hx]; omega) (fun p hp => ?_) (put_sorted _ _ (put_sorted _ _ (erase_sorted (sorted_of_val hv) k)))
  unfold ok at *
  rcases mem_divide.1 hp with rfl | rfl | h
  · dsimp only; omega
  · dsimp only; omega
  · have := val_ok hv (List.mem_of_mem_eraseIdx h)
    unfold ok at this
    omega
theorem divide_back {n : Nat} {es : List E} (hv : Val (n : Int) es) {k : Nat} {x : E} (hx : es[k]? = some x) (h1 : (n : Int) < 1048576) (h2 : es.length < 4194304) : induced ((n : Int) + 1) (put (put (es.eraseIdx k) (x.1, (n : Int))) (x.2, (n : Int))) (fr 0 n) = ((n : Int), es.eraseIdx k, 0) := by
  have hV := divide_val hv hx h1 h2
  have e : (n : Int) + 1 = ((n + 1 : Nat) : Int) := by omega
  rw [e] at hV ⊢
  rw [induced_yes hV (fr_once (by omega)), fr_length, named_fr (by omega) hV (erase_sorted (sorted_of_val hv) k)]
  intro y
  simp only [Int.natCast_zero, Int.zero_add]
  rw [show ((y.1, y.2) : Int × Int) = y from rfl, mem_divide]
  constructor
  · intro h
    have := val_ok hv (List.mem_of_mem_eraseIdx h)
    unfold ok at this
    exact ⟨.inr (.inr h), this.1, this.2.2⟩
  · rintro ⟨h | h | h, h3, h4⟩
    · rw [h] at h4
      dsimp only at h4
      omega
    · rw [h] at h4
      dsimp only at h4
      omega
    · exact h

/-! ## With, and Without again -/
theorem with_ok {n N : Int} {es L : List E} {x : E} (h : withE n es x = (N, L, 0)) : Val n es ∧ ok n x ∧ x ∉ es ∧ es.length < 4194304 ∧ N = n ∧ L = put es x := by
  unfold withE at h
  split at h
  · cases h
  · rename_i hv
    have hv' : valid n es = true := by
      cases h' : valid n es
      · exact absurd h' hv
      · rfl
    split at h
    · cases h
    · split at h
      · cases h
      · split at h
        · cases h
        · rename_i h1 h2 h3
          cases h
          exact ⟨valid_iff.1 hv', Classical.byContradiction h1, h2, by omega, rfl, rfl⟩
theorem put_val {n : Int} {es : List E} {x : E} (hv : Val n es) (hx : ok n x) (h : es.length < 4194304) : Val n (put es x) :=
  val_of hv.lo hv.hi (by have := (put_length es x).2; omega) (fun p hp => by
    rcases (mem_put _ _ _).1 hp with rfl | h
    · exact hx
    · exact val_ok hv h) (put_sorted _ _ (sorted_of_val hv))
theorem put_len1 {n : Int} {es : List E} {x : E} (hv : Val n es) (hx : x ∉ es) : (put es x).length = es.length + 1 := by
  rw [put_len _ _ (sorted_of_val hv), if_neg hx]
theorem erase_put {n : Int} {es : List E} {x : E} (hv : Val n es) (hx : ok n x) (hnx : x ∉ es) (h : es.length < 4194304) {k : Nat} (hk : (put es x)[k]? = some x) : (put es x).eraseIdx k = es := by
  have hV := put_val hv hx h
  refine sorted_ext (erase_sorted (sorted_of_val hV) k) (sorted_of_val hv) fun e => ?_
  rw [mem_eraseIdx hV hk, mem_put]
  constructor
  · rintro ⟨rfl | h1, h2⟩
    · exact absurd rfl h2
    · exact h1
  · intro h1
    exact ⟨.inr h1, fun e => hnx (e ▸ h1)⟩

/-! ## Apex -/
theorem apex_cases {n : Int} {es : List E} (hv : Val n es) : (apex n es = (0, [], 141) ∧ (1048576 ≤ n ∨ 4194304 < (es.length : Int) + n)) ∨ (apex n es = (n + 1, spk n es n.toNat, 0) ∧ n < 1048576 ∧ (es.length : Int) + n ≤ 4194304) := by
  unfold apex
  rw [if_neg (not_false hv)]
  by_cases h : 1048576 ≤ n ∨ 4194304 < (es.length : Int) + n
  · exact .inl ⟨by rw [if_pos h], h⟩
  · exact .inr ⟨by rw [if_neg h], by omega, by omega⟩
theorem spk_len {n : Int} {es : List E} (hv : Val n es) : ∀ k, (spk n es k).length = es.length + k
  | 0 => rfl
  | k + 1 => by
    unfold spk
    rw [put_len _ _ (spk_sorted (sorted_of_val hv) k), if_neg, spk_len hv k]
    · omega
    · rw [mem_spk, mem_sp]
      rintro (h | ⟨v, hv', h⟩)
      · exact val_no_n hv _ h
      · have := congrArg Prod.fst h
        dsimp only at this
        omega
theorem apex_val {n : Nat} {es : List E} (hv : Val (n : Int) es) (h1 : (n : Int) < 1048576) (h2 : (es.length : Int) + n ≤ 4194304) : Val ((n : Int) + 1) (spk (n : Int) es n) := by
  refine val_of (by omega) (by omega) (by rw [spk_len hv]; omega) (fun p hp => ?_) (spk_sorted (sorted_of_val hv) n)
  rcases mem_spk.1 hp with h | h
  · have := val_ok hv h
    unfold ok at *
    omega
  · obtain ⟨v, hv', rfl⟩ := mem_sp.1 h
    unfold ok
    dsimp only
    omega
theorem apex_back {n : Nat} {es : List E} (hv : Val (n : Int) es) (h1 : (n : Int) < 1048576) (h2 : (es.length : Int) + n ≤ 4194304) : induced ((n : Int) + 1) (spk (n : Int) es n) (fr 0 n) = ((n : Int), es, 0) := by
  have hV := apex_val hv h1 h2
  have e : (n : Int) + 1 = ((n + 1 : Nat) : Int) := by omega
  rw [e] at hV ⊢
  rw [induced_yes hV (fr_once (by omega)), fr_length, named_fr (by omega) hV (sorted_of_val hv)]
  intro y
  simp only [Int.natCast_zero, Int.zero_add]
  rw [show ((y.1, y.2) : Int × Int) = y from rfl, mem_spk]
  constructor
  · intro h
    have := val_ok hv h
    unfold ok at this
    exact ⟨.inl h, this.1, this.2.2⟩
  · rintro ⟨h | h, h3, h4⟩
    · exact h
    · obtain ⟨v, hv', rfl⟩ := mem_sp.1 h
      dsimp only at h4
      omega

end Ed
end Go.Proofs.Ytdkckdbpbdhoaaa
