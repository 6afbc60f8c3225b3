import Derived.Test.YtfjgmbimapkabaaDoorMg16
/-
  What the document's Print has in memory.
-/
namespace Go.Proofs.YtfjgmbimapkabaaDoor
open Go.RowKit

/-- The certificate is a variable of Print's own; the bytes L are written so far. -/
structure PrS (w : World) (pl : Bool) (ao eo : Option Addr) (na ca ne ce : Nat) (v : Value) (L : List UInt8) (W : World) : Prop where
  low : Below w.heap.size w W
  box : W.heap[w.heap.size]? = some (.cells #[.bool pl, .slice ao na ca, .slice eo ne ce] 27 (0, 0))
  bts : Ce.Bts W (w.heap.size + 1) v L
section
variable {w W W' : World} {pl : Bool} {ao eo : Option Addr} {na ca ne ce : Nat} {v : Value} {L : List UInt8}
theorem Ce.Bts.lt {B : Nat} (h : Ce.Bts W B v L) (b : Nat) (hb : v.ownBlock = some b) : B ≤ b ∧ b < W.heap.size := World.ownsRow.lt h b hb
theorem PrS.start : PrS w pl ao eo na ca ne ce (.slice none 0 0) [] (w.alloc (.cells #[.bool pl, .slice ao na ca, .slice eo ne ce] 27)) :=
  ⟨(Below.refl _ _).alloc (Nat.le_refl _) _, heap_alloc_new w _, Ce.Bts.nil _ _⟩
theorem PrS.later (h : PrS w pl ao eo na ca ne ce v L W) (hb : Below W.heap.size W W') : PrS w pl ao eo na ca ne ce v L W' :=
  ⟨h.low.trans (hb.mono h.low.size), (hb.block _ (lt_of_block h.box)).trans h.box, by
    refine ⟨h.bts.1, ?_⟩
    rcases h.bts.2 with h1 | ⟨g, cap, cur, e, hgB, hh, hr⟩
    · exact .inl h1
    · exact .inr ⟨g, cap, cur, e, hgB, (hb.block _ (lt_of_block hh)).trans hh, hr⟩⟩
theorem PrS.size (h : PrS w pl ao eo na ca ne ce v L W) : w.heap.size + 1 ≤ W.heap.size := lt_of_block h.box
/-- More is written. -/
theorem PrS.grown (h : PrS w pl ao eo na ca ne ce v L W) {v' : Value} {L' : List UInt8} (h1 : Ce.Bts W' (w.heap.size + 1) v' L') (h2 : W.grownBy W' v.ownBlock) : PrS w pl ao eo na ca ne ce v' L' W' := by
  have hfar : some w.heap.size ≠ v.ownBlock := fun e => by have := (h.bts.lt _ e.symm).1; omega
  refine ⟨?_, (h2.block _ (lt_of_block h.box) hfar).trans h.box, h1⟩
  exact h.low.grown h2 (by have := h.size; omega) (fun b hb => by have := (h.bts.lt b hb).1; omega)
theorem PrS.cells (h : PrS w pl ao eo na ca ne ce v L W) : W.cell? ⟨w.heap.size, 0, none⟩ = some (.bool pl) ∧ W.cell? ⟨w.heap.size, 1, none⟩ = some (.slice ao na ca) ∧ W.cell? ⟨w.heap.size, 2, none⟩ = some (.slice eo ne ce) ∧ ∀ i, W.frozen? ⟨w.heap.size, i, none⟩ = false := three_cells17 h.box
/-- What is written is the text of a slice. -/
theorem PrS.form (h : PrS w pl ao eo na ca ne ce v L W) : ∃ vo vc, v = .slice vo L.length vc := by
  rcases h.bts.2 with ⟨rfl, h0⟩ | ⟨g, cap, cur, rfl, -⟩
  · exact ⟨none, 0, by rw [h0]⟩
  · exact ⟨_, _, rfl⟩
theorem PrS.read (h : PrS w pl ao eo na ca ne ce v L W) {vo : Option Addr} {vc : Nat} (hv : v = .slice vo L.length vc) (j : Nat) (hj : j < L.length) : ∃ g, vo = some ⟨g, 0, none⟩ ∧ W.cell? ⟨g, j, none⟩ = some (.int .u8 (L[j].toNat : Int)) := by
  rcases h.bts.2 with ⟨-, h0⟩ | ⟨g, cap, cur, e, hB, hh, hl, hc, hs, ht⟩
  · omega
  · rw [hv] at e
    cases e
    refine ⟨g, rfl, ?_⟩
    rw [cell_of_row W g j cur _ _ hh]
    have h1 : (cur.toList.take (L.length * 1))[j]? = (Lib.byteCells L)[j]? := by rw [ht]
    rw [List.getElem?_take, if_pos (by omega)] at h1
    rw [← Array.getElem?_toList, h1]
    simp [Lib.byteCells, hj]
end
/-- A number as text. -/
theorem rtext17 {x : Int} (h : Ce.okN x) (w : World) : Calls Tryd.prog 22 #[.int .i64 x] w fun e w' => e = .returned (.string ⟨(Ce.dg x).toArray⟩) ∧ Below w.heap.size w w' := by
  obtain ⟨m, rfl⟩ : ∃ m : Nat, x = (m : Int) := ⟨x.toNat, by have := h.1; omega⟩
  have h1 := h.2
  refine (reftext_any (m : Int) (by omega) (by omega) w).mono ?_
  rintro e w' ⟨rfl, hg⟩
  refine ⟨?_, (Below.refl _ _).grown hg (Nat.le_refl _) (fun k hk => by cases hk)⟩
  rw [Lib.itoa_nonneg]
  rfl
end Go.Proofs.YtfjgmbimapkabaaDoor
/-
  The document's own edges: may a certificate's edges be written?
-/
namespace Go.Proofs.YtfjgmbimapkabaaDoor
open Go.RowKit

set_option maxRecDepth 100000 in
set_option maxHeartbeats 4000000 in
theorem redges17_any {w : World} {ao : Option Addr} {c : Nat} {es : List (Int × Int)} (h : EdgesAt w ao es) (hs : es.length ≤ 4611686018427387904) :
    Calls Tryd.prog 21 #[.slice ao es.length c] w fun e w' => Ce.Says e (Ce.okEs es) ∧ Below w.heap.size w w' := by
  obtain ⟨n, hn⟩ : ∃ n, es.length = n := ⟨_, rfl⟩
  rw [hn] at hs ⊢
  have HS := Nu.hid h
  have HN := Nu.hid hn
  clear h hn
  go_enter Tryd.func21, Tryd.ntmps21
  go_wp2
  go_loopw [3] (fun iv wr => ∃ k : Nat, k ≤ n ∧ iv = .int .i64 (k : Int) ∧ (∀ i p, i < k → es[i]? = some p → Ce.okN p.1 ∧ Ce.okN p.2 ∧ p.1 < p.2) ∧ (∀ i p q, i + 1 < k → es[i]? = some p → es[i + 1]? = some q → p.1 < q.1 ∨ (p.1 = q.1 ∧ p.2 < q.2)) ∧ Below w.heap.size w wr) (fun iv _ => n - (intOf iv).toNat)
  case atStart => exact ⟨0, Nat.zero_le _, rfl, fun i p h => by omega, fun i p q h => by omega, Below.refl _ _⟩
  case round =>
    obtain ⟨k, hk, rfl, hok, hor, hbw⟩ := hrel
    have HOK := Nu.hid hok
    have HOR := Nu.hid hor
    have HBW := Nu.hid hbw
    clear hok hor
    by_cases hlt : k < n
    · have hlti : (k : Int) < (n : Int) := by omega
      have k0 : (0 : Int) ≤ (k : Int) := by omega
      obtain ⟨⟨u, v⟩, hp⟩ : ∃ p, es[k]? = some p := ⟨_, List.getElem?_eq_getElem (by have := HN.out; omega)⟩
      have hat := HS.out.later hbw
      obtain ⟨b, o, rfl, c0, c1⟩ := hat k (u, v) hp
      dsimp only at c0 c1
      have hbl := block_lt_of_cell c0
      have HP := Nu.hid hp
      have HAT := Nu.hid hat
      clear hp hat hbw
      have HBAD : Hid (¬ (Ce.okN u ∧ Ce.okN v ∧ u < v) → ¬ Ce.okEs es) := fun h1 h2 => h1 (h2.1.1 _ (List.mem_of_getElem? HP.out))
      by_cases hu : Ce.okN u
      · have HU : Hid (∀ W, Calls Tryd.prog 34 #[.int .i64 u] W fun e w' => e = .returned (.bool true) ∧ w' = W) := fun W => rnumber17_yes hu W
        by_cases hv : Ce.okN v
        · have HV : Hid (∀ W, Calls Tryd.prog 34 #[.int .i64 v] W fun e w' => e = .returned (.bool true) ∧ w' = W) := fun W => rnumber17_yes hv W
          by_cases huv : v ≤ u
          · have HNO : Hid (¬ Ce.okEs es) := HBAD.out (fun h => absurd h.2.2 (by omega))
            clear hu hv
            go_wp2_with fail
            go_quiet (first | (go_at_call 34; exact Calls.quiet_of_same (HU.out _)) | (go_at_call 34; exact Calls.quiet_of_same (HV.out _)))
            go_wp2
            go_ret
            exact ⟨Ce.Says.no HNO.out, below_drewN HBW.out _⟩
          · have HE : Hid (Ce.okN u ∧ Ce.okN v ∧ u < v) := ⟨hu, hv, by omega⟩
            clear hu hv
            have hnew : Hid (∀ i p, i < k + 1 → es[i]? = some p → Ce.okN p.1 ∧ Ce.okN p.2 ∧ p.1 < p.2) := fun i p hi hp => by
              by_cases hik : i = k
              · subst hik
                rw [HP.out] at hp
                cases hp
                exact HE.out
              · exact HOK.out i p (by omega) hp
            go_wp2_with fail
            go_quiet (first | (go_at_call 34; exact Calls.quiet_of_same (HU.out _)) | (go_at_call 34; exact Calls.quiet_of_same (HV.out _)))
            go_wp2_with fail
            by_cases hk0 : k = 0
            · have m3 : ¬ ((0 : Int) < (k : Int)) := by omega
              have m3a : ¬ (0 < k) := by omega
              have m3c : decide (0 < k) = false := decide_eq_false m3a
              have HK0 := Nu.hid hk0
              clear hk0
              go_quiet (fail)
              go_wp2
              go_roundw
              case rel => exact ⟨k + 1, by omega, by go_num, hnew.out, fun i p q hi => absurd HK0.out (by omega), by first | exact below_drewN HBW.out _ | exact below_drewN (below_drewN HBW.out _) _⟩
              case measure => simp [intOf]; omega
            · obtain ⟨m, rfl⟩ : ∃ m, k = m + 1 := ⟨k - 1, by omega⟩
              obtain ⟨⟨a, z⟩, hp⟩ : ∃ p, es[m]? = some p := ⟨_, List.getElem?_eq_getElem (by have := HN.out; omega)⟩
              obtain ⟨b', o', e', d0, d1⟩ := HAT.out m (a, z) hp
              cases e'
              dsimp only at d0 d1
              have HQ := Nu.hid hp
              clear hp
              have m0 : (0 : Int) ≤ ((m + 1 : Nat) : Int) - 1 := by omega
              have m1 : ((m + 1 : Nat) : Int) - 1 < (n : Int) := by omega
              have m2 : ((m + 1 : Nat) : Int) - 1 = (m : Int) := by omega
              have m3 : (0 : Int) < ((m + 1 : Nat) : Int) := by omega
              have m4 : (0 : Int) ≤ (m : Int) := by omega
              have m5 : (m : Int) < (n : Int) := by omega
              have m6 : (m : Int) ≤ 9223372036854775807 := by omega
              have m8 : (m : Int) + 1 < (n : Int) := by omega
              have m9 : (0 : Int) ≤ (m : Int) + 1 := by omega
              have m10 : (0 : Int) < (m : Int) + 1 := by omega
              by_cases g1 : u < a
              · have HNO : Hid (¬ Ce.okEs es) := fun h => (by have := h.1.2 m (a, z) (u, v) HQ.out HP.out; dsimp only at this; omega)
                go_quiet (fail)
                go_wp2
                go_ret
                exact ⟨Ce.Says.no HNO.out, by first | exact below_drewN HBW.out _ | exact below_drewN (below_drewN HBW.out _) _⟩
              · by_cases g2 : a = u
                · have t2 : (a == u) = true := by simp [g2]
                  by_cases g3 : v ≤ z
                  · have HNO : Hid (¬ Ce.okEs es) := fun h => (by have := h.1.2 m (a, z) (u, v) HQ.out HP.out; dsimp only at this; omega)
                    have g4 : v ≤ z := g3
                    go_quiet (fail)
                    go_wp2
                    go_ret
                    exact ⟨Ce.Says.no HNO.out, by first | exact below_drewN HBW.out _ | exact below_drewN (below_drewN HBW.out _) _⟩
                  · have HW : Hid (a < u ∨ (a = u ∧ z < v)) := .inr ⟨g2, by omega⟩
                    go_quiet (fail)
                    go_wp2
                    go_roundw
                    case rel =>
                      refine ⟨m + 1 + 1, by omega, by go_num, hnew.out, fun i p q hi hp hq => ?_, by first | exact below_drewN HBW.out _ | exact below_drewN (below_drewN HBW.out _) _⟩
                      by_cases him : i = m
                      · subst him
                        rw [HQ.out] at hp
                        rw [HP.out] at hq
                        cases hp
                        cases hq
                        exact HW.out
                      · exact HOR.out i p q (by omega) hp hq
                    case measure => simp [intOf]; omega
                · have t2 : (a == u) = false := by simp [g2]
                  have HW : Hid (a < u ∨ (a = u ∧ z < v)) := .inl (by omega)
                  go_quiet (fail)
                  go_wp2
                  go_roundw
                  case rel =>
                    refine ⟨m + 1 + 1, by omega, by go_num, hnew.out, fun i p q hi hp hq => ?_, by first | exact below_drewN HBW.out _ | exact below_drewN (below_drewN HBW.out _) _⟩
                    by_cases him : i = m
                    · subst him
                      rw [HQ.out] at hp
                      rw [HP.out] at hq
                      cases hp
                      cases hq
                      exact HW.out
                    · exact HOR.out i p q (by omega) hp hq
                  case measure => simp [intOf]; omega
        · have HV : Hid (∀ W, Calls Tryd.prog 34 #[.int .i64 v] W fun e w' => e = .returned (.bool false) ∧ w' = W) := fun W => rnumber17_no hv W
          have HNO : Hid (¬ Ce.okEs es) := HBAD.out (fun h => hv h.2.1)
          clear hu hv
          go_wp2_with fail
          go_quiet (first | (go_at_call 34; exact Calls.quiet_of_same (HU.out _)) | (go_at_call 34; exact Calls.quiet_of_same (HV.out _)))
          go_wp2
          go_ret
          exact ⟨Ce.Says.no HNO.out, below_drewN HBW.out _⟩
      · have HU : Hid (∀ W, Calls Tryd.prog 34 #[.int .i64 u] W fun e w' => e = .returned (.bool false) ∧ w' = W) := fun W => rnumber17_no hu W
        have HNO : Hid (¬ Ce.okEs es) := HBAD.out (fun h => hu h.1)
        clear hu
        go_wp2_with fail
        go_quiet ((go_at_call 34; exact Calls.quiet_of_same (HU.out _)))
        go_wp2
        go_ret
        exact ⟨Ce.Says.no HNO.out, below_drewN HBW.out _⟩
    · have hlti : ¬ ((k : Int) < (n : Int)) := by omega
      obtain rfl : k = n := by omega
      by_cases hc : k ≤ 4194304
      · have hci : (k : Int) ≤ 4194304 := by omega
        go_wp2
        go_ret
        refine ⟨Ce.Says.yes ⟨⟨fun p hp => ?_, fun i p q hp hq => ?_⟩, by have := HN.out; omega⟩, HBW.out⟩
        · obtain ⟨i, hi⟩ := List.getElem?_of_mem hp
          exact HOK.out i p (by have := HN.out; have := (List.getElem?_eq_some_iff.1 hi).1; omega) hi
        · exact HOR.out i p q (by have := HN.out; have := (List.getElem?_eq_some_iff.1 hq).1; omega) hp hq
      · have hci : ¬ ((k : Int) ≤ 4194304) := by omega
        go_wp2
        go_ret
        exact ⟨Ce.Says.no fun h => hc (by have := HN.out; have := h.2; omega), HBW.out⟩
end Go.Proofs.YtfjgmbimapkabaaDoor
/-
  The document's Print of what may not be written.
-/
namespace Go.Proofs.YtfjgmbimapkabaaDoor
open Go.RowKit

set_option maxRecDepth 100000 in
set_option maxHeartbeats 4000000 in
theorem rprint17_bad {w : World} {c : Ce.Cert} {ao eo : Option Addr} {ca ce : Nat} (ha : Ce.ListsAt w ao c.ar) (he : EdgesAt w eo c.es) (h1 : c.ar.length ≤ 4611686018427387904) (h2 : c.es.length ≤ 4611686018427387904) (hl : ∀ l ∈ c.ar, l.length ≤ 4611686018427387904) (hg : ¬ Ce.good c) :
    Calls Tryd.prog 12 #[.agg #[.bool c.pl, .slice ao c.ar.length ca, .slice eo c.es.length ce]] w fun e w' => e = .returned (.tuple #[.string ⟨#[]⟩, .int .i64 170]) ∧ Below w.heap.size w w' := by
  obtain ⟨pl, ar, es⟩ := c
  dsimp only at ha he h1 h2 hl ⊢
  have HS := Nu.hid (PrS.start (w := w) (pl := pl) (ao := ao) (eo := eo) (na := ar.length) (ca := ca) (ne := es.length) (ce := ce))
  have HA : Hid (∀ W, Below w.heap.size w W → Calls Tryd.prog 20 #[.slice ao ar.length ca] W fun e w' => Ce.Says e (Ce.okLs ar) ∧ Below W.heap.size W w') := fun W hW => rlists17_any (ha.later hW) h1 hl
  have HE : Hid (∀ W, Below w.heap.size w W → Calls Tryd.prog 21 #[.slice eo es.length ce] W fun e w' => Ce.Says e (Ce.okEs es) ∧ Below W.heap.size W w') := fun W hW => redges17_any (he.later hW) h2
  clear ha he hl
  obtain ⟨n, hn⟩ : ∃ n, ar.length = n := ⟨_, rfl⟩
  obtain ⟨m, hm⟩ : ∃ m, es.length = m := ⟨_, rfl⟩
  rw [hn] at HS HA h1 ⊢
  rw [hm] at HS HE h2 ⊢
  obtain ⟨v0, v1, v2, vf⟩ := HS.out.cells
  cases pl with
  | true =>
    by_cases hm0 : 0 < m
    · have hmi : (0 : Int) < (m : Int) := by omega
      have HB := Nu.hid HS.out.low
      clear hg hn hm
      go_enter Tryd.func12, Tryd.ntmps12
      go_wp2
      go_ret2
      exact ⟨rfl, HB.out⟩
    · have hmi : ¬ ((0 : Int) < (m : Int)) := by omega
      have hno : ¬ Ce.okLs ar := fun h => hg (by
        unfold Ce.good
        rw [if_pos rfl]
        exact ⟨List.length_eq_zero_iff.1 (by show es.length = 0; omega), h⟩)
      have HA1 : Hid (Calls Tryd.prog 20 #[.slice ao n ca] (w.alloc (.cells #[.bool true, .slice ao n ca, .slice eo m ce] 27)) fun e w' => e = .returned (.bool false) ∧ PrS w true ao eo n ca m ce (.slice none 0 0) [] w') := (HA.out _ HS.out.low).mono (by
        rintro e w' ⟨⟨t, he, ht⟩, hb⟩
        refine ⟨?_, HS.out.later hb⟩
        rw [he]
        cases t with
        | true => exact absurd (ht.1 rfl) hno
        | false => rfl)
      clear hg hn hm hno
      go_enter Tryd.func12, Tryd.ntmps12
      go_wp2_with (go_at_call 20; refine HA1.out.mono ?_; rintro e w1 ⟨rfl, hp⟩; have HP := Nu.hid hp; clear hp v0 v1 v2 vf; obtain ⟨v0, v1, v2, vf⟩ := HP.out.cells)
      go_ret2
      exact ⟨rfl, HP.out.low⟩
  | false =>
    by_cases hn0 : 0 < n
    · have hni : (0 : Int) < (n : Int) := by omega
      have HB := Nu.hid HS.out.low
      clear hg hn hm
      go_enter Tryd.func12, Tryd.ntmps12
      go_wp2
      go_ret2
      exact ⟨rfl, HB.out⟩
    · have hni : ¬ ((0 : Int) < (n : Int)) := by omega
      have hno : ¬ Ce.okEs es := fun h => hg (by
        unfold Ce.good
        rw [if_neg (by simp)]
        exact ⟨List.length_eq_zero_iff.1 (by show ar.length = 0; omega), h⟩)
      have HE1 : Hid (Calls Tryd.prog 21 #[.slice eo m ce] (w.alloc (.cells #[.bool false, .slice ao n ca, .slice eo m ce] 27)) fun e w' => e = .returned (.bool false) ∧ PrS w false ao eo n ca m ce (.slice none 0 0) [] w') := (HE.out _ HS.out.low).mono (by
        rintro e w' ⟨⟨t, he, ht⟩, hb⟩
        refine ⟨?_, HS.out.later hb⟩
        rw [he]
        cases t with
        | true => exact absurd (ht.1 rfl) hno
        | false => rfl)
      clear hg hn hm hno
      go_enter Tryd.func12, Tryd.ntmps12
      go_wp2_with (go_at_call 21; refine HE1.out.mono ?_; rintro e w1 ⟨rfl, hp⟩; have HP := Nu.hid hp; clear hp v0 v1 v2 vf; obtain ⟨v0, v1, v2, vf⟩ := HP.out.cells)
      go_ret2
      exact ⟨rfl, HP.out.low⟩
end Go.Proofs.YtfjgmbimapkabaaDoor
