import Derived.Test.YtjlfdkeklilafabMg07
import Derived.Test.YtjlfdkeklilafabMg01
import Derived.Test.YtjlfdkeklilafabMg06
import Derived.Test.YtjlfdkeklilafabMg08
import Derived.Test.YtjlfdkeklilafabMg12
/-
  The document's own Turned and Canon.
-/
namespace Go.Proofs.Ytjlfdkeklilafab
open Go.RowKit

set_option maxRecDepth 100000 in
set_option maxHeartbeats 8000000 in
theorem turned_any (ao : Option Addr) (ca n a : Nat) (l : List Int) (w : World) (hL : Lst w ao n ca l) (hn : n ≤ 17592186043904) (ha : a < n ∨ (n = 0 ∧ a = 0)) :
    Calls Try.prog 31 #[.slice ao n ca, .int .i64 (a : Int)] w (ListPost (Ro.turn l a) w) := by
  have HL := Nu.hid hL
  have HLL := Nu.hid hL.len
  have HA := Nu.hid (Ro.turnTo_all (l := l) (a := a) (by
    rcases ha with h | ⟨h1, h2⟩
    · exact .inl (by rw [hL.len]; exact h)
    · exact .inr ⟨List.length_eq_zero_iff.1 (by rw [hL.len]; exact h1), h2⟩))
  clear hL
  go_enter Try.func31, Try.ntmps31
  go_wp2
  go_loopw [5, 6] (fun c d wr => ∃ k : Nat, k ≤ n ∧ d = .int .i64 (k : Int) ∧ OwnZ wr w.heap.size c (Ro.turnTo l a k) ∧ Below w.heap.size w wr) (fun _ d _ => n - (intOf d).toNat)
  case atStart => exact ⟨0, Nat.zero_le _, rfl, OwnZ.nil _ _, Below.refl _ _⟩
  case round =>
    obtain ⟨k, hk, rfl, ho, hb⟩ := hrel
    have HO := Nu.hid ho
    have HB := Nu.hid hb
    have hbs := hb.size
    clear ho hb
    by_cases hlt : k < n
    · have hlti : (k : Int) < (n : Int) := by omega
      have hk0 : (0 : Int) ≤ (k : Int) := by omega
      obtain ⟨q, hq⟩ : ∃ q, q = (a + k) % n := ⟨_, rfl⟩
      have hqn : q < n := by rw [hq]; exact Nat.mod_lt _ (by omega)
      have hqm : ((a : Int) + (k : Int)).tmod (n : Int) = (q : Int) := by
        rw [Int.tmod_eq_emod_of_nonneg (by omega), hq]
        exact (Int.natCast_emod (a + k) n).symm
      have hqm2 : ((a : Int) + (k : Int)) % (n : Int) = (q : Int) := by
        rw [hq]
        exact (Int.natCast_emod (a + k) n).symm
      obtain ⟨y, hy⟩ : ∃ y, l[q]? = some y := ⟨_, List.getElem?_eq_getElem (by have := HLL.out; omega)⟩
      obtain ⟨lb, lo', rfl, lc⟩ := (HL.out.later HB.out).elem hy
      have hst : Ro.turnTo l a (k + 1) = Ro.turnTo l a k ++ [y] := by
        show Ro.turnTo l a k ++ [l.getD ((a + k) % l.length) 0] = _
        rw [HLL.out, ← hq, List.getD_eq_getElem?_getD, hy]
        rfl
      have HST := Nu.hid hst
      have hq0 : (0 : Int) ≤ (q : Int) := by omega
      have hqn2 : (q : Int) < (n : Int) := by omega
      have hlz : ((n : Int) == 0) = false := beq_false_of_ne (by omega)
      have hwa : IntKind.i64.wrap ((a : Int) + (k : Int)) = (a : Int) + (k : Int) := by rw [IntKind.wrap_i64]; omega
      have hwq : IntKind.i64.wrap (q : Int) = (q : Int) := by rw [IntKind.wrap_i64]; omega
      have htl := Ro.turnTo_len l a k
      have HTL := Nu.hid htl
      clear hq hy hst htl
      go_wp2_with (at_builtin; refine wpList_push rfl _ _ rfl wr w.heap.size _ (Ro.turnTo l a k) y HO.out hbs (by have := HTL.out; omega) rfl rfl ?_; refine Hid.out ?_)
      refine Nu.hid ?_
      intro v' w' ho' _ _ hb'
      have HO' := Nu.hid (show OwnZ w' w.heap.size v' (Ro.turnTo l a (k + 1)) by rw [HST.out]; exact ho')
      have HB' := Nu.hid (HB.out.trans hb')
      clear ho' hb'
      go_wp2
      go_roundw
      case rel => exact ⟨k + 1, by omega, by go_num, HO'.out, HB'.out⟩
      case measure => simp [intOf]; omega
    · have hlti : ¬ (k : Int) < (n : Int) := by omega
      obtain rfl : k = n := by omega
      go_wp2
      go_ret
      have h1 := HO.out
      rw [← HLL.out, HA.out] at h1
      exact ⟨_, rfl, h1, HB.out⟩

theorem Ro.map_snoc {f : List Int → List Int} {ls : List (List Int)} {k : Nat} {l : List Int} (h : ls[k]? = some l) : (ls.take (k + 1)).map f = (ls.take k).map f ++ [f l] := by
  rw [List.take_add_one, h]
  simp

set_option maxRecDepth 100000 in
set_option maxHeartbeats 8000000 in
theorem r11canon_any (xo : Option Addr) (xc : Nat) (ls : List (List Int)) (w : World) (hx : RwsAt w xo ls) (hl : ls.length ≤ 5864062014805) :
    Calls Try.prog 15 #[.slice xo ls.length xc] w (RowsPost (ls.map Ro.canon1) w) := by
  have HX := Nu.hid hx
  obtain ⟨N, hN⟩ : ∃ N, N = ls.length := ⟨_, rfl⟩
  rw [← hN] at hl ⊢
  have HN := Nu.hid hN
  clear hx hN
  go_enter Try.func15, Try.ntmps15
  go_wp2
  go_loopw [3, 4] (fun c d wr => ∃ (k : Nat) (vs : List Value), k ≤ N ∧ d = .int .i64 (k : Int) ∧ RowsZ wr w.heap.size c vs ((ls.take k).map Ro.canon1) ∧ Below w.heap.size w wr) (fun _ d _ => N - (intOf d).toNat)
  case atStart => exact ⟨0, [], Nat.zero_le _, rfl, RowsZ.nil _ _, Below.refl _ _⟩
  case round =>
    obtain ⟨k, vs, hk, rfl, hr, hb⟩ := hrel
    obtain ⟨W0, rfl⟩ : ∃ W0, W0 = wr := ⟨_, rfl⟩
    have HR := Nu.hid hr
    have HB := Nu.hid hb
    have hws := hb.size
    obtain ⟨uo, uc, rfl⟩ := row_shape hr
    generalize hql : ((ls.take k).map Ro.canon1).length = ql at *
    have HQL := Nu.hid hql
    clear hr hb hql
    by_cases hlt : k < N
    · have hlti : (k : Int) < (N : Int) := by omega
      have hk0 : (0 : Int) ≤ (k : Int) := by omega
      obtain ⟨l, hlk⟩ : ∃ l, ls[k]? = some l := ⟨_, List.getElem?_eq_getElem (by have := HN.out; omega)⟩
      obtain ⟨b, o, A, C, rfl, hc, hL, hln, hlc, hCb⟩ := HX.out k l hlk
      have hbl : b < w.heap.size := block_lt_of_cell hc
      have hcr := (HB.out.cell (p := ⟨b, o + k, none⟩) hbl).trans hc
      have HLW := Nu.hid (hL.later HB.out)
      obtain ⟨p1, hp1⟩ : ∃ p1, l.length = p1 := ⟨_, rfl⟩
      rw [hp1] at hcr hln hlc HLW
      have HLK := Nu.hid hlk
      have HP1 := Nu.hid hp1
      clear hc hL hlk hp1
      go_wp2
      go_loopw [5, 6] (fun c5 c6 w5 => ∃ i q : Nat, i ≤ p1 ∧ c6 = .int .i64 (i : Int) ∧ q = Ro.at' l i ∧ c5 = .int .i64 (q : Int) ∧ Below W0.heap.size W0 w5) (fun _ c6 _ => p1 - (intOf c6).toNat)
      case atStart => exact ⟨0, 0, Nat.zero_le _, rfl, rfl, rfl, Below.refl _ _⟩
      case round =>
        obtain ⟨i, q, hi, rfl, hq, rfl, hb5⟩ := hrel
        have hc5 := (hb5.cell (p := ⟨b, o + k, none⟩) (block_lt_of_cell hcr)).trans hcr
        have HB5 := Nu.hid hb5
        have HQ := Nu.hid hq
        have hqi := Ro.at_le l i
        rw [← hq] at hqi
        clear hb5 hq
        by_cases hil : i < p1
        · have hili : (i : Int) < (p1 : Int) := by omega
          have hi0 : (0 : Int) ≤ (i : Int) := by omega
          obtain ⟨x, hxi⟩ : ∃ x, l[i]? = some x := ⟨_, List.getElem?_eq_getElem (by have := HP1.out; omega)⟩
          obtain ⟨y, hyq⟩ : ∃ y, l[q]? = some y := ⟨_, List.getElem?_eq_getElem (by have := HP1.out; omega)⟩
          obtain ⟨lb, lo', rfl, lc⟩ := (HLW.out.later HB5.out).elem hxi
          obtain ⟨lb', lo'', e, lc'⟩ := (HLW.out.later HB5.out).elem hyq
          cases e
          have hq0 : (0 : Int) ≤ (q : Int) := by omega
          have hqp : (q : Int) < (p1 : Int) := by omega
          have hstep : Ro.at' l (i + 1) = if x < y then i else q := by
            show (if l.getD i 0 < l.getD (Ro.at' l i) 0 then i else Ro.at' l i) = _
            rw [← HQ.out, List.getD_eq_getElem?_getD, List.getD_eq_getElem?_getD, hxi, hyq]
            rfl
          by_cases hxy : x < y
          · have HS : Hid (i = Ro.at' l (i + 1)) := by show _ = _; rw [hstep, if_pos hxy]
            clear hstep hxi hyq
            go_wp2_with fail
            go_quiet (fail)
            go_wp2
            go_roundw
            case rel => exact ⟨i + 1, i, by omega, by go_num, HS.out, rfl, below_drewN HB5.out _⟩
            case measure => simp [intOf]; omega
          · have HS : Hid (q = Ro.at' l (i + 1)) := by show _ = _; rw [hstep, if_neg hxy]
            clear hstep hxi hyq
            go_wp2_with fail
            go_quiet (fail)
            go_wp2
            go_roundw
            case rel => exact ⟨i + 1, q, by omega, by go_num, HS.out, rfl, below_drewN HB5.out _⟩
            case measure => simp [intOf]; omega
        · have hili : ¬ (i : Int) < (p1 : Int) := by omega
          obtain rfl : i = p1 := by omega
          have HT := Nu.hid (turned_any A C i q l wr (HLW.out.later HB5.out) hln (by
            by_cases h0 : i = 0
            · exact .inr ⟨h0, by omega⟩
            · have := Ro.at_lt l i (by omega)
              rw [← HQ.out] at this
              exact .inl this))
          go_wp2_with (go_at_call 31; refine HT.out.mono ?_; refine Hid.out ?_)
          refine Nu.hid ?_
          rintro e V1 ⟨v', rfl, ho, hb1⟩
          have hce : Ro.turn l q = Ro.canon1 l := by
            rw [HQ.out]
            unfold Ro.canon1
            rw [HP1.out]
          rw [hce] at ho
          have hbV := HB5.out.trans (hb1.mono HB5.out.size)
          have HOV := Nu.hid (ho.lower HB5.out.size)
          obtain ⟨A1, C1, e1, -, -⟩ := ho.form
          subst e1
          generalize (Ro.canon1 l).length = q1 at *
          have HBV := Nu.hid hbV
          clear ho hb1 hbV hce
          go_wp2_with (at_builtin; refine wpList_pushRow rfl _ _ 26 Try.underlying26 rfl W0 V1 w.heap.size (.slice uo ql uc) vs ((ls.take k).map Ro.canon1) (.slice A1 q1 C1) (Ro.canon1 l) HR.out HBV.out HOV.out hws (by rw [HQL.out]; have := HQL.out; simp at this; omega) rfl rfl ?_; refine Hid.out ?_)
          refine Nu.hid ?_
          intro v2 w2 hr2 hb2
          have HR2 := Nu.hid (show RowsZ w2 w.heap.size v2 (vs ++ [.slice A1 q1 C1]) ((ls.take (k + 1)).map Ro.canon1) by
            rw [Ro.map_snoc (f := Ro.canon1) HLK.out, List.map_take]
            exact hr2)
          have HB2 := Nu.hid (HB.out.trans hb2)
          clear hr2 hb2
          go_wp2
          go_roundw
          case rel => exact ⟨k + 1, _, by omega, by go_num, HR2.out, HB2.out⟩
          case measure => simp [intOf]; omega
    · have hlti : ¬ (k : Int) < (N : Int) := by omega
      obtain rfl : k = N := by omega
      go_wp2
      go_ret
      have h1 := HR.out
      rw [HN.out, List.take_length] at h1
      exact ⟨_, _, rfl, h1, HB.out⟩

end Go.Proofs.Ytjlfdkeklilafab

/-
  Pure: Next of a rotation, element by element: a permutation of the half-edges, round by round.
-/
namespace Go.Proofs.Ytjlfdkeklilafab
namespace Ro

theorem mem_out {es : List (Int × Int)} {v j k : Nat} : j ∈ Cs.out es v k ↔ j < k ∧ Cs.fr es j = v := by
  constructor
  · intro h
    obtain ⟨i, hi⟩ := List.mem_iff_getElem?.1 h
    have := Cs.out_of hi
    exact ⟨this.1, this.2.1⟩
  · rintro ⟨h, hv⟩
    exact List.mem_of_getElem? (Cs.out_at h hv)

section
variable {es : List (Int × Int)} {v : Nat} {l : List Int}

theorem IsRot.sub (h : IsRot es v l) : l ⊆ (Cs.out es v (2 * es.length)).map (fun j : Nat => (j : Int)) := by
  intro x hx
  obtain ⟨j, rfl, hj, hf⟩ := lv_nat (h.lv x hx)
  exact List.mem_map.2 ⟨j, mem_out.2 ⟨hj, hf⟩, rfl⟩
theorem IsRot.len (h : IsRot es v l) : l.length = deg es v := by
  have h1 := h.once.length_le_of_subset h.sub
  rw [List.length_map] at h1
  have h2 := h.all
  unfold deg at h2 ⊢
  omega
theorem IsRot.mem (h : IsRot es v l) {j : Nat} (hj : j < 2 * es.length) (hf : Cs.fr es j = v) : (j : Int) ∈ l := by
  refine Decidable.byContradiction fun hn => ?_
  have hN : ((j : Int) :: l).Nodup := List.nodup_cons.2 ⟨hn, h.once⟩
  have h1 := hN.length_le_of_subset (l₂ := (Cs.out es v (2 * es.length)).map (fun j : Nat => (j : Int))) (by
    intro x hx
    rcases List.mem_cons.1 hx with rfl | hx
    · exact List.mem_map.2 ⟨j, mem_out.2 ⟨hj, hf⟩, rfl⟩
    · exact h.sub hx)
  rw [List.length_map, List.length_cons, h.len] at h1
  unfold deg at h1
  omega
end

theorem nodup_at {l : List Int} (h : l.Nodup) {i j : Nat} {x : Int} (hi : l[i]? = some x) (hj : l[j]? = some x) : i = j := by
  obtain ⟨h1, rfl⟩ := List.getElem?_eq_some_iff.1 hi
  obtain ⟨h2, e⟩ := List.getElem?_eq_some_iff.1 hj
  rcases Nat.lt_trichotomy i j with c | c | c
  · exact absurd e.symm (List.pairwise_iff_getElem.1 h i j h1 h2 c)
  · exact c
  · exact absurd e (List.pairwise_iff_getElem.1 h j i h2 h1 c)

theorem lt_at {α : Type} {l : List α} {i : Nat} {x : α} (h : l[i]? = some x) : i < l.length := (List.getElem?_eq_some_iff.1 h).1
theorem getD_of {l : List Int} {i : Nat} {x : Int} (h : l[i]? = some x) : l.getD i 0 = x := by simp [List.getD, h]
theorem at_getD {l : List Int} {i : Nat} (h : i < l.length) : l[i]? = some (l.getD i 0) := by simp [List.getD, h]

/-- A list's elements' places, all else as before. -/
theorem row_other {l : List Int} {j : Nat} : ∀ {k : Nat} {acc : List Int}, k ≤ l.length → (∀ i, i < k → (l.getD i 0).toNat ≠ j) → (row l k acc)[j]? = acc[j]?
  | 0, _, _, _ => rfl
  | k + 1, acc, hk, h => by
    rw [row, List.getElem?_set_ne (h k (by omega))]
    exact row_other (by omega) fun i hi => h i (by omega)
theorem row_at {l : List Int} (hN : l.Nodup) (h0 : ∀ x ∈ l, 0 ≤ x) {i : Nat} : ∀ {k : Nat} {acc : List Int}, k ≤ l.length → i < k → (l.getD i 0).toNat < acc.length → (row l k acc)[(l.getD i 0).toNat]? = some (l.getD ((i + 1) % l.length) 0)
  | 0, _, _, h, _ => by omega
  | k + 1, acc, hk, hi, hb => by
    rw [row]
    by_cases e : i = k
    · subst e
      rw [List.getElem?_set_self (by rw [row_len]; exact hb)]
    · have hne : (l.getD k 0).toNat ≠ (l.getD i 0).toNat := by
        intro hc
        have a1 := at_getD (l := l) (i := i) (by omega)
        have a2 := at_getD (l := l) (i := k) (by omega)
        have b1 := h0 _ (List.mem_of_getElem? a1)
        have b2 := h0 _ (List.mem_of_getElem? a2)
        have hc2 : l.getD k 0 = l.getD i 0 := by omega
        rw [hc2] at a2
        exact e (nodup_at hN a1 a2)
      rw [List.getElem?_set_ne hne]
      exact row_at hN h0 (by omega) (by omega) hb

section
variable {n : Int} {es : List (Int × Int)} {ls : List (List Int)}

theorem Rot.nonneg (h : Rot n es ls) {v : Nat} {l : List Int} (hl : ls[v]? = some l) : ∀ x ∈ l, 0 ≤ x := fun x hx => by
  obtain ⟨j, rfl, -, -⟩ := lv_nat ((h.each v l hl).lv x hx)
  omega

theorem nx_at (h : Rot n es ls) {v i : Nat} {l : List Int} (hl : ls[v]? = some l) (hi : i < l.length) : ∀ {k : Nat} {acc : List Int}, acc.length = 2 * es.length → k ≤ ls.length → v < k → (nx ls k acc)[(l.getD i 0).toNat]? = some (l.getD ((i + 1) % l.length) 0)
  | 0, _, _, _, h => by omega
  | k + 1, acc, ha, hk, hv => by
    obtain ⟨j, hj, hjm, hjf⟩ := h.half hl (at_getD hi)
    rw [nx]
    by_cases e : v = k
    · subst e
      have e2 : ls.getD v [] = l := by simp [List.getD, hl]
      rw [e2]
      exact row_at (h.each v l hl).once (h.nonneg hl) (Nat.le_refl _) hi (by rw [nx_len, ha, hj]; simpa using hjm)
    · have hk1 : k < ls.length := by omega
      have hlk : ls[k]? = some (ls.getD k []) := by simp [List.getD, hk1]
      rw [row_other (Nat.le_refl _) ?_]
      · exact nx_at h hl hi ha (by omega) (by omega)
      · intro i' hi' hc
        obtain ⟨j', hj', -, hjf'⟩ := h.half hlk (at_getD hi')
        rw [hj, hj'] at hc
        have : j' = j := by simpa using hc
        subst this
        omega

/-- The element after the i-th. -/
theorem Rot.next (h : Rot n es ls) {v i : Nat} {l : List Int} {x : Int} (hl : ls[v]? = some l) (hx : l[i]? = some x) : (nextL es ls)[x.toNat]? = some (l.getD ((i + 1) % l.length) 0) := by
  have hi := lt_at hx
  have hv := lt_at hl
  have := nx_at h hl hi (k := ls.length) (acc := List.replicate (2 * es.length) 0) (by simp) (Nat.le_refl _) hv
  rw [getD_of hx] at this
  exact this

/-- Each half-edge has its place. -/
theorem Rot.place (h : Rot n es ls) {j : Nat} (hj : j < 2 * es.length) (hf : (Cs.fr es j : Int) < n) : ∃ (l : List Int) (i : Nat), ls[Cs.fr es j]? = some l ∧ l[i]? = some (j : Int) ∧ l.length = deg es (Cs.fr es j) := by
  have hlt : Cs.fr es j < ls.length := by have := h.len; omega
  have hl : ls[Cs.fr es j]? = some ls[Cs.fr es j] := by simp [hlt]
  obtain ⟨i, hi⟩ := List.mem_iff_getElem?.1 ((h.each _ _ hl).mem hj rfl)
  exact ⟨_, i, hl, hi, (h.each _ _ hl).len⟩

/-- What is next is a half-edge of the same vertex. -/
theorem Rot.nextAt (h : Rot n es ls) {j : Nat} (hj : j < 2 * es.length) (hf : (Cs.fr es j : Int) < n) : ∃ t : Nat, (nextL es ls)[j]? = some (t : Int) ∧ t < 2 * es.length ∧ Cs.fr es t = Cs.fr es j := by
  obtain ⟨l, i, hl, hi, -⟩ := h.place hj hf
  have h1 := h.next hl hi
  have hil := lt_at hi
  obtain ⟨t, ht, htm, htf⟩ := h.half hl (at_getD (i := (i + 1) % l.length) (Nat.mod_lt _ (by omega)))
  rw [ht] at h1
  exact ⟨t, by simpa using h1, htm, htf⟩

theorem mod_inj {a b d : Nat} (ha : a < d) (hb : b < d) (h : (a + 1) % d = (b + 1) % d) : a = b := by
  rcases Nat.lt_or_ge (a + 1) d with h1 | h1 <;> rcases Nat.lt_or_ge (b + 1) d with h2 | h2
  · rw [Nat.mod_eq_of_lt h1, Nat.mod_eq_of_lt h2] at h
    omega
  · have : b + 1 = d := by omega
    rw [Nat.mod_eq_of_lt h1, this, Nat.mod_self] at h
    omega
  · have : a + 1 = d := by omega
    rw [Nat.mod_eq_of_lt h2, this, Nat.mod_self] at h
    omega
  · omega

/-- No two have the same next. -/
theorem Rot.inj (h : Rot n es ls) (hfr : ∀ j, j < 2 * es.length → (Cs.fr es j : Int) < n) {a b : Nat} {t : Int} (ha : (nextL es ls)[a]? = some t) (hb : (nextL es ls)[b]? = some t) : a = b := by
  have hal : a < 2 * es.length := by have := lt_at ha; rwa [nextL_len] at this
  have hbl : b < 2 * es.length := by have := lt_at hb; rwa [nextL_len] at this
  obtain ⟨l, i, hl, hi, -⟩ := h.place hal (hfr a hal)
  obtain ⟨l', i', hl', hi', -⟩ := h.place hbl (hfr b hbl)
  have h1 := h.next hl hi
  have h2 := h.next hl' hi'
  simp only [Int.toNat_natCast] at h1 h2
  have e1 : t = l.getD ((i + 1) % l.length) 0 := by rw [ha] at h1; exact Option.some.inj h1
  have e2 : t = l'.getD ((i' + 1) % l'.length) 0 := by rw [hb] at h2; exact Option.some.inj h2
  have hil := lt_at hi
  have hil' := lt_at hi'
  have a1 := at_getD (l := l) (i := (i + 1) % l.length) (Nat.mod_lt _ (by omega))
  have a2 := at_getD (l := l') (i := (i' + 1) % l'.length) (Nat.mod_lt _ (by omega))
  rw [← e1] at a1
  rw [← e2] at a2
  obtain ⟨u, hu, -, hf1⟩ := h.half hl a1
  obtain ⟨u', hu', -, hf2⟩ := h.half hl' a2
  have huu : u = u' := by omega
  subst huu
  have hff : Cs.fr es a = Cs.fr es b := by omega
  rw [← hff, hl] at hl'
  cases hl'
  have := mod_inj hil hil' (nodup_at (h.each _ _ hl).once a1 a2)
  subst this
  rw [hi] at hi'
  have := Option.some.inj hi'
  omega

theorem mod_back {i s d : Nat} (hi : i < d) (hs : 0 < s) (hd : s ≤ d) : (i + s) % d = i ↔ s = d := by
  constructor
  · intro h
    rcases Nat.lt_or_ge (i + s) d with c | c
    · rw [Nat.mod_eq_of_lt c] at h
      omega
    · rw [Nat.mod_eq_sub_mod c] at h
      rw [Nat.mod_eq_of_lt (by omega)] at h
      omega
  · rintro rfl
    rw [Nat.add_mod_right, Nat.mod_eq_of_lt hi]

/-- s steps from the i-th. -/
theorem Rot.step (h : Rot n es ls) {v i s : Nat} {l : List Int} (hl : ls[v]? = some l) (hi : i < l.length) : ∃ t t' : Nat, l[(i + s) % l.length]? = some (t : Int) ∧ l[(i + (s + 1)) % l.length]? = some (t' : Int) ∧ t < 2 * es.length ∧ Cs.fr es t = v ∧ (nextL es ls)[t]? = some (t' : Int) := by
  have a1 := at_getD (l := l) (i := (i + s) % l.length) (Nat.mod_lt _ (by omega))
  have a2 := at_getD (l := l) (i := (i + (s + 1)) % l.length) (Nat.mod_lt _ (by omega))
  obtain ⟨t, ht, htm, htf⟩ := h.half hl a1
  obtain ⟨t', ht', -, -⟩ := h.half hl a2
  have h1 := h.next hl a1
  rw [ht] at a1 h1
  rw [ht'] at a2
  refine ⟨t, t', a1, a2, htm, htf, ?_⟩
  have e : ((i + s) % l.length + 1) % l.length = (i + (s + 1)) % l.length := by
    rw [Nat.mod_add_mod, Nat.add_assoc]
  rw [e, getD_of a2] at h1
  simpa using h1
end
end Ro
end Go.Proofs.Ytjlfdkeklilafab

/-
  Pure: From of Around, Around of From; which lists From takes.
-/
namespace Go.Proofs.Ytjlfdkeklilafab
namespace Ro

section
variable {m : Nat} {es : List (Int × Int)} {ls ms : List (List Int)}

theorem map_self {l : List Int} {g : Int → Int} (h : ∀ x ∈ l, g x = x) : l.map g = l := by
  have := List.map_congr_left (f := g) (g := fun x => x) h
  rw [this, List.map_id']

theorem hls_around (hv : Si.Val m es) (h : Rot (m : Int) es ls) : hls es 0 (around es ls) = ls := by
  refine List.ext_getElem? fun v => ?_
  by_cases hlt : v < ls.length
  · have h1 : ls[v]? = some ls[v] := by simp [hlt]
    have h2 : (around es ls)[v]? = some (toL es ls[v]) := by
      unfold around
      rw [List.getElem?_map, h1]
      rfl
    rw [hls_at h2, h1, Nat.zero_add]
    congr 1
    unfold toL
    rw [List.map_map]
    refine map_self fun x hx => ?_
    obtain ⟨j, rfl, hj, hf⟩ := lv_nat ((h.each v _ h1).lv x hx)
    show hl es v (Cs.to es ((j : Int)).toNat : Int) = (j : Int)
    exact (hl_lv (hl_of hv hj hf (by simp))).1
  · rw [List.getElem?_eq_none (by rw [hls_len]; simp [around]; omega), List.getElem?_eq_none (by omega)]

theorem hl_ge {v : Nat} {x : Int} (h : 0 ≤ hl es v x) : ∃ j : Nat, half es v x (2 * es.length) = some j := by
  cases e : half es v x (2 * es.length) with
  | none => rw [(hl_no e).1] at h; omega
  | some j => exact ⟨j, rfl⟩

theorem around_hls (h : Rot (m : Int) es (hls es 0 ms)) : around es (hls es 0 ms) = ms := by
  refine List.ext_getElem? fun v => ?_
  by_cases hlt : v < ms.length
  · have h1 : ms[v]? = some ms[v] := by simp [hlt]
    have h2 := hls_at (es := es) (k := 0) h1
    unfold around
    rw [List.getElem?_map, h2, h1, Nat.zero_add]
    rw [Nat.zero_add] at h2
    show some _ = some _
    congr 1
    unfold toL
    rw [List.map_map]
    refine map_self fun x hx => ?_
    obtain ⟨j, hj, hjm, hf⟩ := lv_nat ((h.each v _ h2).lv _ (List.mem_map.2 ⟨x, hx, rfl⟩))
    obtain ⟨j', hj'⟩ := hl_ge (es := es) (v := v) (x := x) (by omega)
    have e := (hl_lv hj').1
    show (Cs.to es (hl es v x).toNat : Int) = x
    rw [e]
    have := (half_some hj').2.2
    simpa using this
  · rw [List.getElem?_eq_none (by simp [around, hls_len]; omega), List.getElem?_eq_none (by omega)]

/-- A list of v's neighbours, each once. -/
def Nice (es : List (Int × Int)) (v : Nat) (l : List Int) : Prop := (∀ x ∈ l, 0 ≤ hl es v x) ∧ l.Nodup
/-- The lengths of the first k lists. -/
def sumTo (ms : List (List Int)) (k : Nat) : Nat := ((List.range k).map fun v => (ms.getD v []).length).sum
def degTo (es : List (Int × Int)) (j k : Nat) : Nat := ((List.range k).map fun v => (Cs.out es v j).length).sum

theorem sumTo_succ (ms : List (List Int)) (k : Nat) : sumTo ms (k + 1) = sumTo ms k + (ms.getD k []).length := by
  simp [sumTo, List.range_succ, List.sum_append]
theorem degTo_succ (es : List (Int × Int)) (j k : Nat) : degTo es j (k + 1) = degTo es j k + (Cs.out es k j).length := by
  simp [degTo, List.range_succ, List.sum_append]
theorem degTo_step (es : List (Int × Int)) (j : Nat) : ∀ k, degTo es (j + 1) k = degTo es j k + if Cs.fr es j < k then 1 else 0
  | 0 => by simp [degTo]
  | k + 1 => by
    rw [degTo_succ, degTo_succ, degTo_step es j k, Cs.out_len_succ]
    by_cases h : Cs.fr es j < k
    · rw [if_pos h, if_neg (by omega), if_pos (by omega)]
      omega
    · by_cases e : Cs.fr es j = k
      · rw [if_neg h, if_pos e, if_pos (by omega)]
        omega
      · rw [if_neg h, if_neg e, if_neg (by omega)]
        omega
theorem degTo_all {k : Nat} : ∀ {j : Nat}, (∀ i, i < j → Cs.fr es i < k) → degTo es j k = j
  | 0, _ => by
    have : ∀ k, degTo es 0 k = 0 := fun k => by
      induction k with
      | zero => rfl
      | succ k ih => rw [degTo_succ, ih]; simp [Cs.out]
    exact this k
  | j + 1, h => by
    rw [degTo_step, degTo_all (fun i hi => h i (by omega)), if_pos (h j (by omega))]
theorem degTo_mono (es : List (Int × Int)) (j : Nat) {a b : Nat} (h : a ≤ b) : degTo es j a ≤ degTo es j b := by
  induction b with
  | zero =>
    obtain rfl : a = 0 := by omega
    exact Nat.le_refl _
  | succ b ih =>
    by_cases e : a = b + 1
    · rw [e]; exact Nat.le_refl _
    · have := ih (by omega)
      rw [degTo_succ]
      omega

theorem Nice.lv {v : Nat} {l : List Int} (h : Nice es v l) : ∀ x ∈ l.map (hl es v), Ro.lv es x v = true := fun x hx => by
  obtain ⟨y, hy, rfl⟩ := List.mem_map.1 hx
  obtain ⟨j, hj⟩ := hl_ge (h.1 y hy)
  rw [(hl_lv hj).1]
  exact (hl_lv hj).2.1
theorem Nice.once {v : Nat} {l : List Int} (h : Nice es v l) : (l.map (hl es v)).Nodup := by
  refine List.pairwise_map.2 (List.Pairwise.imp_of_mem ?_ h.2)
  intro a b ha _ hne he
  obtain ⟨j, hj⟩ := hl_ge (h.1 a ha)
  exact hne (hl_inj hj (by rw [← he]; exact (hl_lv hj).1))
theorem Nice.few {v : Nat} {l : List Int} (h : Nice es v l) : l.length ≤ deg es v := by
  have h1 := h.once.length_le_of_subset (l₂ := (Cs.out es v (2 * es.length)).map (fun j : Nat => (j : Int))) (by
    intro x hx
    obtain ⟨j, rfl, hj, hf⟩ := lv_nat (h.lv x hx)
    exact List.mem_map.2 ⟨j, mem_out.2 ⟨hj, hf⟩, rfl⟩)
  rw [List.length_map, List.length_map] at h1
  exact h1

theorem sum_le : ∀ {k : Nat}, (∀ v l, v < k → ms[v]? = some l → Nice es v l) → k ≤ ms.length → sumTo ms k ≤ degTo es (2 * es.length) k
  | 0, _, _ => Nat.zero_le _
  | k + 1, h, hk => by
    rw [sumTo_succ, degTo_succ]
    have h1 := sum_le (k := k) (fun v l hv => h v l (by omega)) (by omega)
    have h2 : ms[k]? = some (ms.getD k []) := by simp [List.getD, show k < ms.length by omega]
    have h3 := (h k _ (by omega) h2).few
    unfold deg at h3
    omega
theorem sum_eq : ∀ {k : Nat}, (∀ v l, v < k → ms[v]? = some l → Nice es v l) → k ≤ ms.length → sumTo ms k = degTo es (2 * es.length) k → ∀ v l, v < k → ms[v]? = some l → l.length = deg es v
  | 0, _, _, _, v, l, hv, _ => by omega
  | k + 1, h, hk, he, v, l, hv, hl => by
    rw [sumTo_succ, degTo_succ] at he
    have h1 := sum_le (k := k) (fun v l hv => h v l (by omega)) (by omega)
    have h2 : ms[k]? = some (ms.getD k []) := by simp [List.getD, show k < ms.length by omega]
    have h3 := (h k _ (by omega) h2).few
    unfold deg at h3
    by_cases e : v = k
    · subst e
      rw [h2] at hl
      cases hl
      unfold deg
      omega
    · exact sum_eq (k := k) (fun v l hv => h v l (by omega)) (by omega) (by omega) v l (by omega) hl

/-- What the law's own 'right' asks. -/
def RightL (m : Nat) (es : List (Int × Int)) (ms : List (List Int)) : Prop := ms.length = m ∧ (∀ v l, ms[v]? = some l → Nice es v l) ∧ sumTo ms m = 2 * es.length

theorem right_iff (hv : Si.Val m es) : RightL m es ms ↔ Rot (m : Int) es (hls es 0 ms) := by
  have hd : degTo es (2 * es.length) m = 2 * es.length := degTo_all fun i hi => (Cs.half_lt hv hi).1
  constructor
  · rintro ⟨h1, h2, h3⟩
    refine ⟨Si.valid_iff.2 hv, by rw [hls_len, h1], fun v l' hl' => ?_⟩
    have hvl : v < ms.length := by have := lt_at hl'; rwa [hls_len] at this
    have hl : ms[v]? = some ms[v] := by simp [hvl]
    rw [hls_at hl, Nat.zero_add] at hl'
    cases hl'
    have hn := h2 v _ hl
    refine ⟨hn.lv, hn.once, ?_⟩
    rw [List.length_map, sum_eq (fun v l _ => h2 v l) (Nat.le_of_eq h1.symm) (by rw [h3, hd]) v _ (by omega) hl]
    exact Nat.le_refl _
  · intro h
    have hlen : ms.length = m := by have := h.len; rw [hls_len] at this; omega
    have hn : ∀ v l, ms[v]? = some l → Nice es v l := fun v l hl => by
      have h1 := hls_at (es := es) (k := 0) hl
      rw [Nat.zero_add] at h1
      have hr := h.each v _ h1
      refine ⟨fun x hx => ?_, ?_⟩
      · obtain ⟨j, hj, -, -⟩ := lv_nat (hr.lv _ (List.mem_map.2 ⟨x, hx, rfl⟩))
        omega
      · exact (List.pairwise_map.1 hr.once).imp fun hne e => hne (by rw [e])
    refine ⟨hlen, hn, ?_⟩
    have : ∀ k, k ≤ m → sumTo ms k = degTo es (2 * es.length) k := fun k => by
      induction k with
      | zero => intro _; rfl
      | succ k ih =>
        intro hk
        rw [sumTo_succ, degTo_succ, ih (by omega)]
        have h2 : ms[k]? = some (ms.getD k []) := by simp [List.getD, show k < ms.length by omega]
        have h1 := hls_at (es := es) (k := 0) h2
        rw [Nat.zero_add] at h1
        have hr := (h.each k _ h1).len
        rw [List.length_map] at hr
        unfold deg at hr
        omega
    rw [this m (Nat.le_refl _), hd]
end
end Ro
end Go.Proofs.Ytjlfdkeklilafab

/-
  A list more behind lists of one's own, whatever else is one's own beside them: which blocks stay.
-/
namespace Go.Proofs.Ytjlfdkeklilafab
open Go.RowKit

/-- 'append(v, y)', v lists of one's own, y one that shares no block with them: what is not v's outer block stays. -/
theorem wpList_pushRowG {ops : Array Oper} {rest : List Oper} {o : Oper} {a : Act} {Q : Exit → Act → World → Prop} (hgd : o.guard = none) (s x : Operand) (T : TypeId) (hT : Try.prog.underlying T = some (.slice 39))
    (ho : o.op = .call { callee := .builtin .append, args := #[s, x], argTypes := #[T, T] }) (W : World) (B : Nat) (v : Value) (vs : List Value) (ls : List (List Int)) (y : Value) (l : List Int) (hr : RowsZ W B v vs ls)
    (hy : OwnZ W B y l) (h1 : ∀ (u : Nat) (z : Value) (b : Nat), vs[u]? = some z → z.ownBlock = some b → y.ownBlock ≠ some b) (h2 : ∀ b, v.ownBlock = some b → y.ownBlock ≠ some b) (hB : B ≤ W.heap.size) (hl : ls.length ≤ 5864062014804) (hs : a.eval s = v) (hx : a.eval x = .slice (some ⟨W.heap.size, 0, none⟩) 1 1)
    (h : ∀ v' w', RowsZ w' B v' (vs ++ [y]) (ls ++ [l]) → (∀ b, b < W.heap.size → v.ownBlock ≠ some b → w'.heap[b]? = W.heap[b]?) → (v'.ownBlock = v.ownBlock ∨ ∀ b, v'.ownBlock = some b → W.heap.size ≤ b) → Below B W w' → wpList Try.prog ops Q rest (a.put o.dst v') w') :
    wpList Try.prog ops Q (o :: rest) a (W.alloc (.cells #[y] 39)) := by
  obtain ⟨i0, hi, hz0, hz1, hz2⟩ := info_parts Try.infoRow
  have hb0 : Below B W (W.alloc (.cells #[y] 39)) := (Below.refl _ _).alloc (by omega) _
  have hyv : ∃ ao c, y = .slice ao l.length c := by
    obtain ⟨ao, c, e, -⟩ := hy.form
    exact ⟨ao, c, e⟩
  obtain ⟨yo, yc, rfl⟩ := hyv
  refine wpList_append_own_at _ hgd s x T ho B 39 i0 (.slice none 0 0) 1 24 hT hi hz0 hz1 hz2 rfl (by decide) _ _ _ hs (World.ownsRow.alloc hr.outer _) ⟨W.heap.size, 0, none⟩ 1 1 [.slice yo l.length yc] hx rfl (cell_one_new _ _ _) (by simp [Value.oneCell']) (by unfold maxLen; omega) (by omega) (by simp; omega) ?_
  intro v' w' hown' hg _ hat
  have hRZ : RowsZ w' B v' (vs ++ [.slice yo l.length yc]) (ls ++ [l]) := by
    refine hr.grow hy h1 h2 (tmp := .cells #[.slice yo l.length yc] 39) hown' hg ?_
    rcases hat with h1 | h1
    · exact .inl h1
    · exact .inr (by simpa using h1)
  refine h v' w' hRZ (fun b hb hne => ?_) ?_ (hb0.grown hg (by simp; omega) (fun b hvb => (World.ownsRow.lt hr.outer b hvb).1))
  · exact (hg.block b (by simp; omega) (fun e => hne e.symm)).trans (Below.heap_alloc W _ b hb)
  · rcases hat with h1 | h1
    · exact .inl h1
    · refine .inr fun b hb => ?_
      rw [h1] at hb
      have := Option.some.inj hb
      simp at this
      omega

end Go.Proofs.Ytjlfdkeklilafab
