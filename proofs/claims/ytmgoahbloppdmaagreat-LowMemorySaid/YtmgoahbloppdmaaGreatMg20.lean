import Derived.Test.YtmgoahbloppdmaaGreatMg07
import Derived.Test.YtmgoahbloppdmaaGreatMg19
import Derived.Test.YtmgoahbloppdmaaGreatMg17
import Derived.Test.YtmgoahbloppdmaaGreatMg01
/-
  How far up edges lead, pure: Low of a tree edge by what goes on from its lower end (P8.3).
-/
namespace Go.Proofs.YtmgoahbloppdmaaGreat
namespace Lo
open Df
section
variable {n : Nat} {es : List (Int × Int)} {s : St} {e b : Nat}

theorem anc_self (h : VF n es s) {v : Nat} (hv : v < n) : Anc es s v v := by
  obtain ⟨⟨W, B⟩, hs'⟩ := h.side
  obtain ⟨Y, hw, _, _⟩ := way_of (es := es) h.once hs' hv
  exact ⟨Y, hw, List.mem_cons_self⟩

theorem last_of {α : Type} : ∀ (X : List α), X ≠ [] → ∃ X' x, X = X' ++ [x]
  | [], h => absurd rfl h
  | x :: X, _ => by
    by_cases hX : X = []
    · exact ⟨[], x, by rw [hX]; rfl⟩
    · obtain ⟨X', y, e⟩ := last_of X hX
      exact ⟨x :: X', y, by rw [e]; rfl⟩

/-- Who is above another and not it itself is so by a tree edge that begins there. -/
theorem child_of (h : VF n es s) {w v : Nat} (hvn : v < n) (ha : Anc es s w v) (hne : w ≠ v) : ∃ k, k < es.length ∧ tree es s k = true ∧ fr es s k = w ∧ Anc es s (go_ es s k) v := by
  obtain ⟨⟨W, B⟩, hs'⟩ := h.side
  obtain ⟨Y, hw, _, hrange⟩ := way_of (es := es) h.once hs' hvn
  have hmem := (Anc.iff hw).1 ha
  obtain ⟨X, Z, hXZ⟩ := List.append_of_mem hmem
  have hX : X ≠ [] := fun e => by
    rw [e] at hXZ
    simp at hXZ
    omega
  obtain ⟨X', x, rfl⟩ := last_of X hX
  have hw2 := hw
  rw [hXZ, List.append_assoc] at hw2
  have ht := hw2.tail
  have hup : Df.up es s x = (w : Int) := ht.2.1
  have hx0 : 0 ≤ x := ht.1
  have hxm : x ∈ (v : Int) :: Y := by rw [hXZ]; simp
  have hxn : ∃ u : Nat, u < n ∧ x = (u : Int) := by
    rcases List.mem_cons.1 hxm with e | hm
    · exact ⟨v, hvn, e⟩
    · exact hrange x hm
  obtain ⟨u, hun, rfl⟩ := hxn
  rcases h.hang u hun with ⟨h1, _⟩ | ⟨y, h1, h2, h3, h4, _⟩
  · unfold Df.up at hup
    rw [Int.toNat_natCast, h1, Cs.frI_no (by omega)] at hup
    omega
  · have hk : y / 2 < es.length := by omega
    have hoh : oh s (y / 2) = y := by unfold oh; rw [h4]; simp
    have hgo : go_ es s (y / 2) = u := by unfold go_; rw [hoh]; exact h3
    refine ⟨y / 2, hk, ?_, ?_, ?_⟩
    · rw [tree_iff h hk, hgo, hoh]
      exact h2
    · unfold fr
      rw [hoh]
      unfold Df.up at hup
      rw [Int.toNat_natCast, h2, Cs.frI_in h1] at hup
      omega
    · rw [hgo]
      exact ⟨Y, hw, hxm⟩

/-- P8.3. -/
theorem low_tree (hv : Si.Val n es) (h : VF n es s) (he : e < es.length) (ht' : tree es s e = true) : low es s e = least (hf es s e) (((List.range es.length).filter fun k => decide (fr es s k = go_ es s e)).map (low es s)) := by
  obtain ⟨hup, hht⟩ := tree_up hv h he ht'
  have hk1 : ∀ k, fr es s k = go_ es s e → hf es s k = hf es s e + 1 := fun k hk => by
    rw [← hht]
    unfold hf ht
    rw [hk]
  have hwn := (ends_lt hv h he).2
  have hLM : ∀ k, k < es.length → fr es s k = go_ es s e → low es s e ≤ low es s k ∨ hf es s e ≤ low es s k := fun k hk hfk => by
    by_cases hlo : hf es s e ≤ low es s k
    · exact .inr hlo
    · left
      have hlt : low es s k < hf es s k := by rw [hk1 k hfk]; omega
      rcases least_mem (hf es s k) (hs es s k) with h1 | h1
      · have h2 : low es s k = hf es s k := h1
        omega
      · obtain ⟨b, hb, hb2⟩ := List.mem_map.1 h1
        have hb3 : ht es s b = low es s k := hb2
        obtain ⟨b1, b2, _⟩ := rets_lt hv h hk hb
        have hbr : b ∈ rets es s e := by
          rw [mem_rets_tree ht']
          refine ⟨b1, b2, by omega, ?_⟩
          cases htk : tree es s k with
          | true =>
            have h5 := ((mem_rets_tree htk).1 hb).2.2.2
            obtain ⟨hupk, _⟩ := tree_up hv h hk htk
            have h6 : Anc es s (go_ es s e) (go_ es s k) := by
              obtain ⟨⟨W, B⟩, hs'⟩ := h.side
              obtain ⟨Y, hw, _, _⟩ := way_of (es := es) h.once hs' (ends_lt hv h hk).2
              rw [← hfk]
              exact anc_child hw List.mem_cons_self hupk (by omega)
            exact anc_trans h6 h5
          | false =>
            rw [rets_back htk, List.mem_singleton] at hb
            rw [hb, hfk]
            exact anc_self h hwn
        have h7 := (least_le (hf es s e) (hs es s e)).2 _ (List.mem_map.2 ⟨b, hbr, rfl⟩)
        have h8 : low es s e ≤ ht es s b := h7
        omega
  apply Int.le_antisymm
  · rcases least_mem (hf es s e) (((List.range es.length).filter fun k => decide (fr es s k = go_ es s e)).map (low es s)) with h1 | h1
    · rw [h1]
      exact (least_le (hf es s e) (hs es s e)).1
    · obtain ⟨k, hk, hk2⟩ := List.mem_map.1 h1
      rw [← hk2]
      obtain ⟨hk3, hk4⟩ := List.mem_filter.1 hk
      rcases hLM k (List.mem_range.1 hk3) (by simpa using hk4) with h2 | h2
      · exact h2
      · exact Int.le_trans (least_le (hf es s e) (hs es s e)).1 h2
  · have hM := least_le (hf es s e) (((List.range es.length).filter fun k => decide (fr es s k = go_ es s e)).map (low es s))
    rcases least_mem (hf es s e) (hs es s e) with h1 | h1
    · show _ ≤ least _ _
      rw [h1]
      exact hM.1
    · obtain ⟨b, hb, hb2⟩ := List.mem_map.1 h1
      have hb3 : low es s e = ht es s b := hb2.symm
      rw [hb3]
      obtain ⟨b1, b2, b3, b4⟩ := (mem_rets_tree ht').1 hb
      by_cases hfb : fr es s b = go_ es s e
      · rw [← low_back hv h b1 b2]
        exact hM.2 _ (List.mem_map.2 ⟨b, List.mem_filter.2 ⟨List.mem_range.2 b1, by simpa using hfb⟩, rfl⟩)
      · obtain ⟨k, hk, htk, hfk, hak⟩ := child_of h (ends_lt hv h b1).1 b4 (fun e => hfb e.symm)
        have hbk : b ∈ rets es s k := by
          rw [mem_rets_tree htk]
          exact ⟨b1, b2, by rw [hk1 k hfk]; omega, hak⟩
        have h2 := (least_le (hf es s k) (hs es s k)).2 _ (List.mem_map.2 ⟨b, hbk, rfl⟩)
        have h3 := hM.2 (low es s k) (List.mem_map.2 ⟨k, List.mem_filter.2 ⟨List.mem_range.2 hk, by simpa using hfk⟩, rfl⟩)
        exact Int.le_trans h3 h2
end
end Lo
end Go.Proofs.YtmgoahbloppdmaaGreat

/-
  What leads answers is Low and Low2, if it is told of the edges that go on; pure.
-/
namespace Go.Proofs.YtmgoahbloppdmaaGreat
namespace Lo
open Df

theorem steps2_twos (A1 A2 : List Int) (m : Int) (l : List Int) : steps2 A1 A2 m l = twos (m, m) (l.flatMap fun x => [A1.getD (x.toNat / 2) 0, A2.getD (x.toNat / 2) 0]) := by
  unfold steps2 twos
  rw [List.foldl_flatMap]
  rfl

section
variable {n : Nat} {es : List (Int × Int)} {s : St}

theorem mem_frL (hVF : VF n es s) {v : Nat} (hv : v < n) {x : Int} : x ∈ frL n es s v ↔ ∃ k, k < es.length ∧ fr es s k = v ∧ x = (oh s k : Int) := by
  unfold frL
  rw [List.mem_filter, mem_outZ hv]
  constructor
  · rintro ⟨⟨i, rfl, hi, hf⟩, hw⟩
    have hw' : at_ s.ori (i / 2) = (i : Int) := by
      unfold wb at hw
      rw [Int.toNat_natCast] at hw
      exact of_decide_eq_true hw
    have ho : oh s (i / 2) = i := by unfold oh; rw [hw']; simp
    exact ⟨i / 2, by omega, by unfold fr; rw [ho]; exact hf, by rw [ho]⟩
  · rintro ⟨k, hk, hf, rfl⟩
    obtain ⟨h1, _, h3, h4⟩ := oh_of hVF hk
    refine ⟨⟨oh s k, rfl, h3, hf⟩, ?_⟩
    unfold wb
    rw [Int.toNat_natCast, h4]
    exact decide_eq_true h1

theorem least_anti {m : Int} {X Y : List Int} (h1 : ∀ x ∈ X, least m Y ≤ x) (h2 : ∀ y ∈ Y, least m X ≤ y) : least m X = least m Y := by
  have a1 := least_le m X
  have a2 := least_le m Y
  rcases least_mem m X with e1 | e1 <;> rcases least_mem m Y with e2 | e2
  · omega
  · have := h2 _ e2; have := a2.1; omega
  · have := h1 _ e1; have := a1.1; omega
  · have := h2 _ e2; have := h1 _ e1; omega

variable {e : Nat}

theorem mem_hs {x : Int} : x ∈ hs es s e ↔ ∃ b ∈ rets es s e, ht es s b = x := by
  unfold hs
  rw [List.mem_map]

/-- What comes back out of a tree edge comes back out of one that goes on. -/
theorem hs_on (hv : Si.Val n es) (h : VF n es s) (he : e < es.length) (ht' : tree es s e = true) {x : Int} (hx : x ∈ hs es s e) : ∃ k, k < es.length ∧ fr es s k = go_ es s e ∧ x ∈ hs es s k := by
  obtain ⟨b, hb, rfl⟩ := mem_hs.1 hx
  obtain ⟨b1, b2, b3, b4⟩ := (mem_rets_tree ht').1 hb
  have hends := ends_lt hv h he
  have hbe := ends_lt hv h b1
  by_cases hne : go_ es s e = fr es s b
  · refine ⟨b, b1, hne.symm, mem_hs.2 ⟨b, ?_, rfl⟩⟩
    rw [rets_back b2]
    exact List.mem_singleton.2 rfl
  · obtain ⟨k, k1, k2, k3, k4⟩ := child_of h hbe.1 b4 hne
    refine ⟨k, k1, k3, mem_hs.2 ⟨b, (mem_rets_tree k2).2 ⟨b1, b2, ?_, k4⟩, rfl⟩⟩
    have := (tree_up hv h he ht').2
    unfold hf
    rw [k3]
    show ht es s b < ht es s e
    omega

theorem hs_back (hv : Si.Val n es) (h : VF n es s) (he : e < es.length) (ht' : tree es s e = true) {k : Nat} (hk : k < es.length) (hf' : fr es s k = go_ es s e) {x : Int} (hx : x ∈ hs es s k) (hlt : x < hf es s e) : x ∈ hs es s e := by
  obtain ⟨b, hb, rfl⟩ := mem_hs.1 hx
  refine mem_hs.2 ⟨b, (mem_rets_tree ht').2 ?_, rfl⟩
  have hends := ends_lt hv h he
  have hke := ends_lt hv h hk
  cases htk : tree es s k with
  | true =>
    obtain ⟨b1, b2, b3, b4⟩ := (mem_rets_tree htk).1 hb
    refine ⟨b1, b2, hlt, anc_trans ?_ b4⟩
    have hup := (tree_up hv h hk htk).1
    rw [hf'] at hup
    obtain ⟨⟨W, B⟩, hs'⟩ := h.side
    obtain ⟨Y, hw, _, _⟩ := way_of (es := es) h.once hs' hke.2
    exact anc_child hw List.mem_cons_self hup (by omega)
  | false =>
    rw [rets_back htk] at hb
    obtain rfl := List.mem_singleton.1 hb
    exact ⟨hk, htk, hlt, by rw [hf']; exact anc_self h hends.2⟩

theorem low_mem (k : Nat) : low es s k = hf es s k ∨ low es s k ∈ hs es s k := least_mem _ _
theorem low2_mem (k : Nat) : low2 es s k = hf es s k ∨ (low2 es s k ∈ hs es s k ∧ low es s k < low2 es s k) := by
  rcases least_mem (hf es s k) ((hs es s k).filter fun x => decide (low es s k < x)) with h | h
  · exact .inl h
  · obtain ⟨h1, h2⟩ := List.mem_filter.1 h
    exact .inr ⟨h1, of_decide_eq_true h2⟩

theorem lead_low (hv : Si.Val n es) (h : VF n es s) (he : e < es.length) {A1 A2 : List Int} (hA : tree es s e = true → ∀ k, k < es.length → fr es s k = go_ es s e → A1.getD k 0 = low es s k ∧ A2.getD k 0 = low2 es s k) :
    lead n es s A1 A2 (oh s e) = (low es s e, low2 es s e) := by
  have hends := ends_lt hv h he
  unfold lead
  cases ht' : tree es s e with
  | false =>
    have hn : ¬ at_ s.par (Cs.to es (oh s e)) = (oh s e : Int) := fun hp => by
      have := (tree_iff h he).2 hp
      rw [ht'] at this
      cases this
    rw [if_neg hn]
    have hup := back_up hv h he ht'
    have h1 := low_back hv h he ht'
    have h2 : low2 es s e = hf es s e := by
      rcases low2_mem (es := es) (s := s) e with h2 | ⟨h2, h3⟩
      · exact h2
      · obtain ⟨b, hb, hb2⟩ := mem_hs.1 h2
        rw [rets_back ht'] at hb
        obtain rfl := List.mem_singleton.1 hb
        omega
    unfold two1
    dsimp only
    rw [h1, h2]
    exact if_pos hup
  | true =>
    have hp : at_ s.par (Cs.to es (oh s e)) = (oh s e : Int) := (tree_iff h he).1 ht'
    rw [if_pos hp]
    replace hA := hA ht'
    obtain ⟨X, hX⟩ : ∃ X, X = (frL n es s (Cs.to es (oh s e))).flatMap fun x => [A1.getD (x.toNat / 2) 0, A2.getD (x.toNat / 2) 0] := ⟨_, rfl⟩
    have hmem : ∀ y, y ∈ X ↔ ∃ k, k < es.length ∧ fr es s k = go_ es s e ∧ (y = low es s k ∨ y = low2 es s k) := fun y => by
      rw [hX, List.mem_flatMap]
      constructor
      · rintro ⟨x, hx, hy⟩
        obtain ⟨k, hk, hf', rfl⟩ := (mem_frL h hends.2).1 hx
        rw [Int.toNat_natCast, (oh_of h hk).2.2.2, (hA k hk hf').1, (hA k hk hf').2] at hy
        refine ⟨k, hk, hf', ?_⟩
        simpa using hy
      · rintro ⟨k, hk, hf', hy⟩
        refine ⟨(oh s k : Int), (mem_frL h hends.2).2 ⟨k, hk, hf', rfl⟩, ?_⟩
        rw [Int.toNat_natCast, (oh_of h hk).2.2.2, (hA k hk hf').1, (hA k hk hf').2]
        simpa using hy
    have htwo := IsTwo.many X [] (hf es s e, hf es s e) (IsTwo.start _)
    rw [List.nil_append] at htwo
    have hq : steps2 A1 A2 (at_ s.hei (Cs.fr es (oh s e))) (frL n es s (Cs.to es (oh s e))) = twos (hf es s e, hf es s e) X := by
      rw [steps2_twos, hX]
      rfl
    rw [hq]
    obtain ⟨q, hq'⟩ : ∃ q, twos (hf es s e, hf es s e) X = q := ⟨_, rfl⟩
    rw [hq'] at htwo ⊢
    have hfk : ∀ k, fr es s k = go_ es s e → hf es s k = hf es s e + 1 := fun k hk => by
      have := (tree_up hv h he ht').2
      unfold hf
      rw [hk]
      exact this
    have hlt := low_tree hv h he ht'
    have hle : ∀ k, k < es.length → fr es s k = go_ es s e → low es s e ≤ low es s k := fun k hk hf' => by
      rw [hlt]
      refine (least_le _ _).2 _ (List.mem_map.2 ⟨k, List.mem_filter.2 ⟨List.mem_range.2 hk, decide_eq_true hf'⟩, rfl⟩)
    have e1 : q.1 = low es s e := by
      rw [htwo.1, hlt]
      refine least_anti (fun y hy => ?_) (fun y hy => ?_)
      · rw [← hlt]
        obtain ⟨k, hk, hf', hy⟩ := (hmem y).1 hy
        have h1 := hle k hk hf'
        have h2 := (low_le es s k).1
        rcases hy with rfl | rfl <;> omega
      · obtain ⟨k, hk, rfl⟩ := List.mem_map.1 hy
        obtain ⟨hk1, hk2⟩ := List.mem_filter.1 hk
        exact (least_le _ _).2 _ ((hmem _).2 ⟨k, List.mem_range.1 hk1, of_decide_eq_true hk2, .inl rfl⟩)
    have e2 : q.2 = low2 es s e := by
      rw [htwo.2, e1]
      unfold low2
      refine least_anti (fun y hy => ?_) (fun y hy => ?_)
      · obtain ⟨hy1, hy2⟩ := List.mem_filter.1 hy
        have hy3 : low es s e < y := of_decide_eq_true hy2
        obtain ⟨k, hk, hf', hy⟩ := (hmem y).1 hy1
        have hfk' := hfk k hf'
        have hll := least_le (hf es s e) ((hs es s e).filter fun x => decide (low es s e < x))
        by_cases hge : hf es s e ≤ y
        · have := hll.1
          omega
        · have hin : y ∈ hs es s k := by
            rcases hy with rfl | rfl
            · rcases low_mem (es := es) (s := s) k with h1 | h1
              · omega
              · exact h1
            · rcases low2_mem (es := es) (s := s) k with h1 | h1
              · omega
              · exact h1.1
          exact hll.2 y (List.mem_filter.2 ⟨hs_back hv h he ht' hk hf' hin (by omega), hy2⟩)
      · obtain ⟨hy1, hy2⟩ := List.mem_filter.1 hy
        have hy3 : low es s e < y := of_decide_eq_true hy2
        obtain ⟨k, hk, hf', hin⟩ := hs_on hv h he ht' hy1
        have hll := least_le (hf es s e) (X.filter fun x => decide (low es s e < x))
        have hk1 : low es s k ≤ y := (least_le _ _).2 y hin
        have hk0 := hle k hk hf'
        by_cases hgt : low es s e < low es s k
        · have := hll.2 (low es s k) (List.mem_filter.2 ⟨(hmem _).2 ⟨k, hk, hf', .inl rfl⟩, decide_eq_true hgt⟩)
          omega
        · have hk2 : low2 es s k ≤ y := (least_le _ _).2 y (List.mem_filter.2 ⟨hin, decide_eq_true (by omega)⟩)
          have hyk := hs_lt hv h hk y hin
          have hk3 : low es s k < low2 es s k := by
            rcases low2_mem (es := es) (s := s) k with h1 | h1
            · omega
            · exact h1.2
          have := hll.2 (low2 es s k) (List.mem_filter.2 ⟨(hmem _).2 ⟨k, hk, hf', .inr rfl⟩, decide_eq_true (by omega)⟩)
          omega
    exact Prod.ext e1 e2
end
end Lo
end Go.Proofs.YtmgoahbloppdmaaGreat

/-
  slices.Backward over a list of ints, as an iterator; and where the vertices stand in a forest's order.
-/
namespace Go.Proofs.YtmgoahbloppdmaaGreat
open Go.RowKit Go.Shelf

attribute [local go_sem] Oper.semAt_some

/-- The places of a list, from the last one back. -/
def downs (n : Nat) : List Nat := (List.range n).reverse

theorem downs_len (n : Nat) : (downs n).length = n := by simp [downs]
theorem downs_at {n k : Nat} (h : k < n) : (downs n)[k]? = some (n - 1 - k) := by
  unfold downs
  rw [List.getElem?_reverse (by simpa using h), List.length_range, List.getElem?_range (by omega)]
theorem downs_pre {n x : Nat} {pre : List Nat} (h : pre ++ [x] <+: downs n) : pre.length < n ∧ x = n - 1 - pre.length := by
  obtain ⟨r, hr⟩ := h
  have hl := congrArg List.length hr
  rw [downs_len] at hl
  simp at hl
  have hlt : pre.length < n := by omega
  have := downs_at hlt
  rw [← hr] at this
  simp at this
  exact ⟨hlt, this⟩

abbrev enc2 (l : List Int) (k : Nat) : Array Value := #[.int .i64 (k : Int), .int .i64 (Df.at_ l k)]

def BackPost (ao : Option Addr) (n c : Nat) (w : World) (e : Ending) (w' : World) : Prop :=
  ∃ Bs, e = .returned (.func (.func 57) #[] #[.pointer (some ⟨Bs, 0, none⟩)]) ∧ w.heap.size ≤ Bs ∧ Boxed w' Bs 25 (.slice ao n c) ∧ Below w.heap.size w w'

theorem backward_any (ao : Option Addr) (n c : Nat) (w : World) : Calls Tryz.prog 34 #[.slice ao n c] w (BackPost ao n c w) := by
  go_enter Tryz.func34, Tryz.ntmps34
  go_wp2
  go_ret
  exact ⟨w.heap.size, rfl, Nat.le_refl _, Boxed.new w _ _, (Below.refl _ _).alloc (Nat.le_refl _) _⟩

set_option maxRecDepth 100000 in
set_option maxHeartbeats 2000000 in
theorem back_it (Bs n₀ c n : Nat) (S : Nat → Prop) (ao : Option Addr) (l : List Int) (hn : n ≤ 8388608) (w : World) (hS : ¬ S Bs) (hB : Boxed w Bs 25 (.slice ao n c))
    (hc : ∀ i, i < n → ∃ b o, ao = some ⟨b, o, none⟩ ∧ ∀ W, Below n₀ w W → W.cell? ⟨b, o + i, none⟩ = some (.int .i64 (Df.at_ l i))) (hn₀ : n₀ ≤ w.heap.size) :
    SeqIt Tryz.prog 57 #[.pointer (some ⟨Bs, 0, none⟩)] (enc2 l) n₀ S (downs n) w 0 := by
  intro lp J Jx W hW _ _ _ hY h0
  have hBW : Boxed W Bs 25 (.slice ao n c) := (hW.block Bs hB.lt).trans hB
  have hb0 := hBW.cell
  have hbW : Below n₀ w W := hW.mono hn₀
  clear hB hW
  refine (callsIn_wide (n := 5)).1 ?_
  refine callsIn_of_wp Tryz.func57 rfl trivial ?_ rfl
  simp only [Tryz.ntmps57, List.size_toArray, List.length_cons, List.length_nil, Nat.reduceAdd, Nat.reduceSub, Array.replicate_succ, Array.replicate_zero, List.push_toArray, List.append_toArray, List.nil_append, List.cons_append]
  have hn1 : (n : Int) ≤ 8388608 := by omega
  gi_wp2
  gi_loopw [3] (fun i wr => ∃ k : Nat, k ≤ n ∧ i = .int .i64 ((n : Int) - 1 - (k : Int)) ∧ J ((downs n).take k) wr ∧ Kep n₀ S W wr ∧ W.heap.size ≤ wr.heap.size) (fun i _ => ((intOf i) + 1).toNat)
  case atStart => exact ⟨0, Nat.zero_le _, by go_num, by simpa using h0, Kep.refl _ _ _, Nat.le_refl _⟩
  case round =>
    obtain ⟨k, hk, rfl, hJs, hnx, hsz⟩ := hrel
    by_cases hlt : k < n
    · obtain ⟨x, hx⟩ : ∃ x : Nat, (n : Int) - 1 - (k : Int) = (x : Int) := ⟨n - 1 - k, by omega⟩
      have hxn : x < n := by omega
      obtain ⟨b, o, rfl, hcz⟩ := hc x hxn
      have hb1 : wr.cell? ⟨Bs, 0, none⟩ = some (.slice (some ⟨b, o, none⟩) n c) := hnx.cell hb0 hS
      have hc1 := hcz wr (hbW.trans hnx.1)
      have hat : (downs n)[k]? = some x := by rw [downs_at hlt]; congr 1; omega
      obtain ⟨fn, tmps, assign, body, hy, hR⟩ := hY ((downs n).take k) x wr (take_pre hat) hJs (by omega) 4
      have hsn : (downs n).take (k + 1) = (downs n).take k ++ [x] := by
        rw [List.take_add_one, hat]
        rfl
      obtain ⟨z, hz⟩ : ∃ z, Df.at_ l x = z := ⟨_, rfl⟩
      rw [hx]
      unfold enc2 at hy
      rw [hz] at hc1 hy
      have x0 : (0 : Int) ≤ (x : Int) := by omega
      have x1 : (x : Int) < (n : Int) := by omega
      have x2 : (x : Int) - 1 = (n : Int) - 1 - ((k + 1 : Nat) : Int) := by omega
      have HSN := Nu.hid hsn
      have HJ := Nu.hid hJs
      have HNX := Nu.hid hnx
      have HSZ := Nu.hid hsz
      have HX2 := Nu.hid x2
      clear hsn hJs hnx hY hcz hz hsz hat hx hc x2
      gi_wp2
      refine hR.mono ?_
      rintro e W3 ⟨hkf, (⟨rfl, hJ3, hk3⟩ | ⟨rfl, hJx3⟩)⟩
      · have HJ3 := Nu.hid hJ3
        have HK3 := Nu.hid hk3
        have HS3 := Nu.hid hkf.size
        clear hJ3 hk3 hkf
        gi_wp2
        go_roundw
        case rel => exact ⟨k + 1, by omega, by rw [← HX2.out], by rw [HSN.out]; exact HJ3.out, HNX.out.trans HK3.out, Nat.le_trans HSZ.out HS3.out⟩
        case measure => simp [intOf]
      · have HJX3 := Nu.hid hJx3
        clear hJx3
        gi_wp2
        refine bodyPost_ret (results_none rfl _ _ _) rfl ?_
        exact ⟨⟨_, rfl⟩, .inr ⟨_, by rw [← HSN.out]; exact List.take_prefix _ _, HJX3.out⟩⟩
    · have hke : k = n := by omega
      subst hke
      have hm : (k : Int) - 1 - (k : Int) = -1 := by omega
      have HJ : Hid (J (downs k) wr) := by
        show J (downs k) wr
        rw [List.take_of_length_le (by rw [downs_len]; exact Nat.le_refl _)] at hJs
        exact hJs
      rw [hm]
      clear hJs hnx hY hc hm
      gi_wp2
      go_end0
      exact ⟨⟨_, rfl⟩, .inl HJ.out⟩

namespace Lo
open Df
section
variable {n : Nat} {es : List (Int × Int)} {s : St}

/-- The places of the vertices. -/
def places (n : Nat) (s : St) : List Int := (List.range n).map fun v : Nat => ((s.ord.idxOf (v : Int) : Nat) : Int)

theorem idx_of (h : VF n es s) {a : Nat} (ha : a < n) : s.ord.idxOf (at_ s.ord a) = a := by
  have hl := h.lens.2.2.1
  have hnd : s.ord.Nodup := by
    refine List.pairwise_iff_getElem.2 fun i j hi hj hij e => ?_
    have hj' : j < n := by omega
    have := (h.once j hj').2 i hij
    apply this
    unfold at_
    rw [List.getD_eq_getElem?_getD, List.getD_eq_getElem?_getD, List.getElem?_eq_getElem hi, List.getElem?_eq_getElem hj, e]
  have e : at_ s.ord a = s.ord[a]'(by omega) := by
    unfold at_
    rw [List.getD_eq_getElem?_getD, List.getElem?_eq_getElem (by omega)]
    rfl
  rw [e]
  exact hnd.idxOf_getElem a (by omega)

theorem places_is (h : VF n es s) : IsPlace n s (places n s) := by
  refine ⟨by simp [places], fun a ha => ?_⟩
  have hb := (h.once a ha).1
  obtain ⟨v, hv⟩ : ∃ v : Nat, at_ s.ord a = (v : Int) := ⟨(at_ s.ord a).toNat, by omega⟩
  rw [hv, Int.toNat_natCast]
  unfold places
  unfold at_
  rw [List.getD_eq_getElem?_getD, List.getElem?_map, List.getElem?_range (by omega)]
  show ((s.ord.idxOf (v : Int) : Nat) : Int) = (a : Int)
  rw [← hv, idx_of h ha]

/-- Who is above another stands ahead of it. -/
theorem anc_place (h : VF n es s) {a b u v : Nat} (ha : a < n) (hb : b < n) (hu : at_ s.ord a = (u : Int)) (hv : at_ s.ord b = (v : Int)) (hanc : Anc es s u v) : a ≤ b := by
  obtain ⟨⟨W, B⟩, hs'⟩ := h.side
  have hu' := (h.once a ha).1
  have hv' := (h.once b hb).1
  have := ((above_iff h.once hs' (places_is h) (u := u) (v := v) (by omega) (by omega)).2 hanc).1
  have p1 := (places_is h).2 a ha
  have p2 := (places_is h).2 b hb
  rw [hu, Int.toNat_natCast] at p1
  rw [hv, Int.toNat_natCast] at p2
  omega

theorem tree_place (hv : Si.Val n es) (h : VF n es s) {e : Nat} (he : e < es.length) (ht' : tree es s e = true) {a b : Nat} (ha : a < n) (hb : b < n) (hu : at_ s.ord a = (fr es s e : Int)) (hw : at_ s.ord b = (go_ es s e : Int)) : a < b := by
  have hends := ends_lt hv h he
  have hne := ends_ne hv h he
  have hanc : Anc es s (fr es s e) (go_ es s e) := by
    obtain ⟨⟨W, B⟩, hs'⟩ := h.side
    obtain ⟨Y, hw, _, _⟩ := way_of (es := es) h.once hs' hends.2
    exact anc_child hw List.mem_cons_self (tree_up hv h he ht').1 (by omega)
  have := anc_place h ha hb hu hw hanc
  rcases Nat.lt_or_ge a b with h1 | h1
  · exact h1
  · have : a = b := by omega
    subst this
    rw [hu] at hw
    omega
end
end Lo

end Go.Proofs.YtmgoahbloppdmaaGreat

/-
  Four cells are written: what lay ahead of them lies as it lay.
-/
namespace Go.Proofs.YtmgoahbloppdmaaGreat
open Go.RowKit

theorem below_put4 {w w' : World} {B R : Nat} (h : Below B w w') (hR : B ≤ R) (a b c d : Value) : Below B w (put4 w' R a b c d) :=
  (((h.setCell (p := ⟨R, 0, none⟩) hR a).setCell (p := ⟨R, 1, none⟩) hR b).setCell (p := ⟨R, 2, none⟩) hR c).setCell (p := ⟨R, 3, none⟩) hR d

end Go.Proofs.YtmgoahbloppdmaaGreat
