import Derived.Test.YtfjgmbimapkabaaDoorMg17
/-
  The document's Print of edges.
-/
namespace Go.Proofs.YtfjgmbimapkabaaDoor
open Go.RowKit

namespace Ce
theorem drop_at {A : Type} {l : List A} {k : Nat} {x : A} (h : l[k]? = some x) : l.drop k = x :: l.drop (k + 1) := by
  obtain ⟨hk, e⟩ := List.getElem?_eq_some_iff.1 h
  rw [List.drop_eq_getElem_cons hk, e]
end Ce

/-- What is written, as a string. -/
theorem PrS.conv {w W : World} {pl : Bool} {ao eo : Option Addr} {na ca ne ce : Nat} {v : Value} {T : List UInt8} (h : PrS w pl ao eo na ca ne ce v T W) (h0 : 0 < T.length) : ∃ g vc, v = .slice (some ⟨g, 0, none⟩) T.length vc ∧ (convert 31 9 v).run Tryd.prog W = .ok (.string ⟨T.toArray⟩) W := by
  obtain ⟨vo, vc, hv⟩ := h.form
  obtain ⟨g, rfl, -⟩ := h.read hv 0 h0
  refine ⟨g, vc, hv, ?_⟩
  rw [hv]
  refine run_convert_bytes_back (P := Tryd.prog) _ 31 9 5 ⟨g, 0, none⟩ vc T Tryd.underlying31 Tryd.underlying5 Tryd.underlying9 ?_
  intro j hj
  obtain ⟨g', e, hc⟩ := h.read hv j hj
  cases e
  have ea : ((⟨g, 0, none⟩ : Addr).add j) = ⟨g, j, none⟩ := by unfold Addr.add; split <;> simp_all
  rw [ea]
  exact hc

/-- What Print answers. -/
def Prt (T : List UInt8) (e : Ending) : Prop := (33554432 < T.length ∧ e = .returned (.tuple #[.string ⟨#[]⟩, .int .i64 10])) ∨ (T.length ≤ 33554432 ∧ e = .returned (.tuple #[.string ⟨T.toArray⟩, .int .i64 0]))

set_option maxRecDepth 100000 in
set_option maxHeartbeats 4000000 in
theorem rprint17_edges {w : World} {es : List (Int × Int)} {ao eo : Option Addr} {n ca ce : Nat} (he : EdgesAt w eo es) (hn : n = 0) (hg : Ce.okEs es) (T : List UInt8) (hT : Ce.textB ⟨false, [], es⟩ = T) (hTl : T.length ≤ 70368744177664) :
    Calls Tryd.prog 12 #[.agg #[.bool false, .slice ao n ca, .slice eo es.length ce]] w fun e w' => Prt T e ∧ Below w.heap.size w w' := by
  subst hn
  have HS := Nu.hid (PrS.start (w := w) (pl := false) (ao := ao) (eo := eo) (na := 0) (ca := ca) (ne := es.length) (ce := ce))
  have h2 : es.length ≤ 4611686018427387904 := by have := hg.2; omega
  have HE1 : Hid (Calls Tryd.prog 21 #[.slice eo es.length ce] (w.alloc (.cells #[.bool false, .slice ao 0 ca, .slice eo es.length ce] 27)) fun e w' => e = .returned (.bool true) ∧ PrS w false ao eo 0 ca es.length ce (.slice none 0 0) [] w') := (redges17_any (he.later HS.out.low) h2).mono (by
    rintro e w' ⟨⟨t, he, ht⟩, hb⟩
    refine ⟨?_, HS.out.later hb⟩
    rw [he]
    cases t with
    | true => rfl
    | false => exact absurd (ht.2 hg) Bool.false_ne_true)
  obtain ⟨m, hm⟩ : ∃ m, es.length = m := ⟨_, rfl⟩
  have hms : m ≤ 4194304 := by have := hg.2; omega
  have hok : Ce.okN (m : Int) := ⟨by omega, by omega⟩
  obtain ⟨D, hD⟩ : ∃ D, Ce.dg (m : Int) = D := ⟨_, rfl⟩
  have hDl : D.length ≤ 9 := by rw [← hD]; exact Ce.dg_short hok
  have HTX : Hid (∀ W, Calls Tryd.prog 22 #[.int .i64 (m : Int)] W fun e w' => e = .returned (.string ⟨D.toArray⟩) ∧ Below W.heap.size W w') := fun W => by rw [← hD]; exact rtext17 hok W
  have HEQ : Hid ([110, 32] ++ D ++ [10] ++ (es.drop 0).flatMap Ce.edgeB = T) := by
    refine Nu.hid ?_
    rw [← hT, ← hD, ← hm]
    simp [Ce.textB, Ce.cntC, Ce.bodyB]
  have HG := Nu.hid hg
  have HEs := Nu.hid he
  have HM := Nu.hid hm
  have HTL := Nu.hid hTl
  rw [hm] at HS HE1 h2 ⊢
  obtain ⟨v0, v1, v2, vf⟩ := HS.out.cells
  clear he hg hT hTl hm hok hD
  go_enter Tryd.func12, Tryd.ntmps12
  have hl1 : ([] : List UInt8).length + ([110, 32] : List UInt8).length ≤ 140737488355328 := by simp
  go_wp2_with (first | (go_at_call 21; refine HE1.out.mono ?_; rintro e w0 ⟨rfl, hp⟩; have HP := Nu.hid hp; clear hp v0 v1 v2 vf; obtain ⟨v0, v1, v2, vf⟩ := HP.out.cells) | (at_builtin; refine wpList_bytes17 rfl _ _ rfl _ (w.heap.size + 1) _ _ [110, 32] HP.out.bts HP.out.size hl1 rfl _ rfl rfl ?_; refine Hid.out ?_))
  refine Nu.hid ?_
  intro x1 w1 qa qb
  have hh := (HP.out.later ((Below.refl _ _).alloc (Nat.le_refl _) _)).grown qa qb
  have HB1 : Hid (PrS w false ao eo 0 ca m ce x1 ([] ++ [110, 32]) w1) := Nu.hid (by first | exact hh | (simp only [List.append_assoc, List.nil_append, List.cons_append] at hh ⊢; exact hh))
  clear qa qb hh hl1
  clear v0 v1 v2 vf
  obtain ⟨v0, v1, v2, vf⟩ := HB1.out.cells
  have hl2 : ([] ++ [110, 32] : List UInt8).length + (D : List UInt8).length ≤ 140737488355328 := by simp; omega
  go_wp2_with (first | (go_at_call 22; refine (HTX.out _).mono ?_; rintro e y2 ⟨rfl, hb⟩; have HC2 := Nu.hid (HB1.out.later hb); clear hb v0 v1 v2 vf; obtain ⟨v0, v1, v2, vf⟩ := HC2.out.cells) | (at_builtin; refine wpList_text17 rfl _ _ rfl _ (w.heap.size + 1) _ _ D rfl rfl HC2.out.bts hl2 (by have := HC2.out.size; omega) ?_; refine Hid.out ?_))
  refine Nu.hid ?_
  intro x2 w2 qa qb
  have hh := HC2.out.grown qa qb
  have HB2 : Hid (PrS w false ao eo 0 ca m ce x2 ([] ++ [110, 32] ++ D) w2) := Nu.hid (by first | exact hh | (simp only [List.append_assoc, List.nil_append, List.cons_append] at hh ⊢; exact hh))
  clear qa qb hh hl2
  clear v0 v1 v2 vf
  obtain ⟨v0, v1, v2, vf⟩ := HB2.out.cells
  have hl3 : ([] ++ [110, 32] ++ D : List UInt8).length + ([10] : List UInt8).length ≤ 140737488355328 := by simp; omega
  go_wp2_with (first | (at_builtin; refine wpList_bytes17 rfl _ _ rfl _ (w.heap.size + 1) _ _ [10] HB2.out.bts HB2.out.size hl3 rfl _ rfl rfl ?_; refine Hid.out ?_))
  refine Nu.hid ?_
  intro x3 w3 qa qb
  have hh := (HB2.out.later ((Below.refl _ _).alloc (Nat.le_refl _) _)).grown qa qb
  have HB3 : Hid (PrS w false ao eo 0 ca m ce x3 ([] ++ [110, 32] ++ D ++ [10]) w3) := Nu.hid (by first | exact hh | (simp only [List.append_assoc, List.nil_append, List.cons_append] at hh ⊢; exact hh))
  clear qa qb hh hl3
  clear v0 v1 v2 vf
  obtain ⟨v0, v1, v2, vf⟩ := HB3.out.cells
  go_wp2
  go_loopw [4, 7] (fun bv iv wr => ∃ (k : Nat) (v : Value) (L : List UInt8), k ≤ m ∧ iv = .int .i64 (k : Int) ∧ bv = v ∧ PrS w false ao eo 0 ca m ce v L wr ∧ L ++ (es.drop k).flatMap Ce.edgeB = T) (fun _ iv _ => m - (intOf iv).toNat)
  case atStart => exact ⟨0, _, _, Nat.zero_le _, rfl, rfl, HB3.out, HEQ.out⟩
  case round =>
    obtain ⟨k, v, L, hk, rfl, rfl, hps, heq⟩ := hrel
    clear v0 v1 v2 vf
    have HP0 := Nu.hid hps
    have HQ := Nu.hid heq
    clear hps heq
    obtain ⟨v0, v1, v2, vf⟩ := HP0.out.cells
    by_cases hlt : k < m
    · have hlti : (k : Int) < (m : Int) := by omega
      have k0 : (0 : Int) ≤ (k : Int) := by omega
      obtain ⟨⟨p, q⟩, hp⟩ : ∃ p, es[k]? = some p := ⟨_, List.getElem?_eq_getElem (by have := HM.out; omega)⟩
      obtain ⟨hop, hoq, -⟩ := HG.out.1.1 _ (List.mem_of_getElem? hp)
      dsimp only at hop hoq
      have HK := Nu.hid hp
      rw [Ce.drop_at hp, List.flatMap_cons] at HQ
      obtain ⟨R, hR⟩ : ∃ R, (es.drop (k + 1)).flatMap Ce.edgeB = R := ⟨_, rfl⟩
      rw [hR] at HQ
      obtain ⟨D1, hD1⟩ : ∃ D, Ce.dg p = D := ⟨_, rfl⟩
      obtain ⟨D2, hD2⟩ : ∃ D, Ce.dg q = D := ⟨_, rfl⟩
      have HT1 : Hid (∀ W, Calls Tryd.prog 22 #[.int .i64 p] W fun e w' => e = .returned (.string ⟨D1.toArray⟩) ∧ Below W.heap.size W w') := fun W => by rw [← hD1]; exact rtext17 hop W
      have HT2 : Hid (∀ W, Calls Tryd.prog 22 #[.int .i64 q] W fun e w' => e = .returned (.string ⟨D2.toArray⟩) ∧ Below W.heap.size W w') := fun W => by rw [← hD2]; exact rtext17 hoq W
      have hq2 : L ++ D1 ++ [32] ++ D2 ++ [10] ++ R = T := by
        rw [← HQ.out, ← hD1, ← hD2]
        simp [Ce.edgeB]
      have hq3 := congrArg List.length hq2
      simp only [List.length_append, List.length_cons, List.length_nil] at hq3
      have HQ2 := Nu.hid hq2
      have HQ3 := Nu.hid hq3
      have HR := Nu.hid hR
      clear hp hop hoq hD1 hD2 hR hq2 hq3
      obtain ⟨b, o, rfl, c0, c1⟩ := HEs.out.later HP0.out.low k (p, q) HK.out
      dsimp only at c0 c1
      have hl4 : (L : List UInt8).length + (D1 : List UInt8).length ≤ 140737488355328 := by have := HQ3.out; have := HTL.out; (try simp only [List.length_append, List.length_cons, List.length_nil]); omega
      go_wp2_with (first | (go_at_call 22; refine (HT1.out _).mono ?_; rintro e y4 ⟨rfl, hb⟩; have HC4 := Nu.hid (HP0.out.later hb); clear hb v0 v1 v2 vf; obtain ⟨v0, v1, v2, vf⟩ := HC4.out.cells) | (at_builtin; refine wpList_text17 rfl _ _ rfl _ (w.heap.size + 1) _ _ D1 rfl rfl HC4.out.bts hl4 (by have := HC4.out.size; omega) ?_; refine Hid.out ?_))
      refine Nu.hid ?_
      intro x4 w4 qa qb
      have hh := HC4.out.grown qa qb
      have HB4 : Hid (PrS w false ao (some ⟨b, o, none⟩) 0 ca m ce x4 (L ++ D1) w4) := Nu.hid (by first | exact hh | (simp only [List.append_assoc, List.nil_append, List.cons_append] at hh ⊢; exact hh))
      clear qa qb hh hl4
      clear v0 v1 v2 vf
      obtain ⟨v0, v1, v2, vf⟩ := HB4.out.cells
      have hl5 : (L ++ D1 : List UInt8).length + ([32] : List UInt8).length ≤ 140737488355328 := by have := HQ3.out; have := HTL.out; (try simp only [List.length_append, List.length_cons, List.length_nil]); omega
      go_wp2_with (first | (at_builtin; refine wpList_bytes17 rfl _ _ rfl _ (w.heap.size + 1) _ _ [32] HB4.out.bts HB4.out.size hl5 rfl _ rfl rfl ?_; refine Hid.out ?_))
      refine Nu.hid ?_
      intro x5 w5 qa qb
      have hh := (HB4.out.later ((Below.refl _ _).alloc (Nat.le_refl _) _)).grown qa qb
      have HB5 : Hid (PrS w false ao (some ⟨b, o, none⟩) 0 ca m ce x5 (L ++ D1 ++ [32]) w5) := Nu.hid (by first | exact hh | (simp only [List.append_assoc] at hh ⊢; exact hh))
      clear qa qb hh hl5
      clear v0 v1 v2 vf
      obtain ⟨v0, v1, v2, vf⟩ := HB5.out.cells
      clear c0 c1
      obtain ⟨b', o', e', c0, c1⟩ := HEs.out.later HB5.out.low k (p, q) HK.out
      cases e'
      dsimp only at c0 c1
      have hl6 : (L ++ D1 ++ [32] : List UInt8).length + (D2 : List UInt8).length ≤ 140737488355328 := by have := HQ3.out; have := HTL.out; (try simp only [List.length_append, List.length_cons, List.length_nil]); omega
      go_wp2_with (first | (go_at_call 22; refine (HT2.out _).mono ?_; rintro e y6 ⟨rfl, hb⟩; have HC6 := Nu.hid (HB5.out.later hb); clear hb v0 v1 v2 vf; obtain ⟨v0, v1, v2, vf⟩ := HC6.out.cells) | (at_builtin; refine wpList_text17 rfl _ _ rfl _ (w.heap.size + 1) _ _ D2 rfl rfl HC6.out.bts hl6 (by have := HC6.out.size; omega) ?_; refine Hid.out ?_))
      refine Nu.hid ?_
      intro x6 w6 qa qb
      have hh := HC6.out.grown qa qb
      have HB6 : Hid (PrS w false ao (some ⟨b, o, none⟩) 0 ca m ce x6 (L ++ D1 ++ [32] ++ D2) w6) := Nu.hid (by first | exact hh | (simp only [List.append_assoc, List.nil_append, List.cons_append] at hh ⊢; exact hh))
      clear qa qb hh hl6
      clear v0 v1 v2 vf
      obtain ⟨v0, v1, v2, vf⟩ := HB6.out.cells
      have hl7 : (L ++ D1 ++ [32] ++ D2 : List UInt8).length + ([10] : List UInt8).length ≤ 140737488355328 := by have := HQ3.out; have := HTL.out; (try simp only [List.length_append, List.length_cons, List.length_nil]); omega
      go_wp2_with (first | (at_builtin; refine wpList_bytes17 rfl _ _ rfl _ (w.heap.size + 1) _ _ [10] HB6.out.bts HB6.out.size hl7 rfl _ rfl rfl ?_; refine Hid.out ?_))
      refine Nu.hid ?_
      intro x7 w7 qa qb
      have hh := (HB6.out.later ((Below.refl _ _).alloc (Nat.le_refl _) _)).grown qa qb
      have HB7 : Hid (PrS w false ao (some ⟨b, o, none⟩) 0 ca m ce x7 (L ++ D1 ++ [32] ++ D2 ++ [10]) w7) := Nu.hid (by first | exact hh | (simp only [List.append_assoc, List.nil_append, List.cons_append] at hh ⊢; exact hh))
      clear qa qb hh hl7
      clear v0 v1 v2 vf
      obtain ⟨v0, v1, v2, vf⟩ := HB7.out.cells
      go_wp2
      go_roundw
      case rel => exact ⟨k + 1, _, _, by omega, by go_num, rfl, HB7.out, by rw [HR.out]; exact HQ2.out⟩
      case measure => simp [intOf]; omega
    · have hlti : ¬ ((k : Int) < (m : Int)) := by omega
      obtain rfl : k = m := by omega
      have hz : es.drop k = [] := List.drop_eq_nil_of_le (by have := HM.out; omega)
      rw [hz] at HQ
      have hLT : L = T := by have := HQ.out; simpa using this
      subst hLT
      obtain ⟨g, vc, rfl, kc⟩ := HP0.out.conv (by
        rw [← HEQ.out]
        simp)
      clear hz
      obtain ⟨N, hN⟩ : ∃ N, L.length = N := ⟨_, rfl⟩
      have HN := Nu.hid hN
      have HKC := Nu.hid kc
      have HTL' := HTL.out
      rw [hN] at kc HTL' ⊢
      clear hN
      by_cases hbig : 33554432 < N
      · have hbi : (33554432 : Int) < (N : Int) := by omega
        clear kc
        go_wp2
        go_ret2
        exact ⟨.inl ⟨by have := HN.out; omega, rfl⟩, HP0.out.low⟩
      · have hbi : ¬ ((33554432 : Int) < (N : Int)) := by omega
        go_wp2
        go_ret2
        exact ⟨.inr ⟨by have := HN.out; omega, rfl⟩, HP0.out.low⟩
end Go.Proofs.YtfjgmbimapkabaaDoor
