/-
  What an Adj answers: First, After.
-/
import Derived.Test.YtponmjipbcmlhaaCsGet
namespace Go.Proofs.Ytponmjipbcmlhaa
open Go.RowKit

/-- What First answers. -/
def Cs.firstI (n : Nat) (es : List (Int × Int)) (x : Int) : Int := (Cs.outZ n es x).getD 0 (-1)

set_option maxRecDepth 100000 in
set_option maxHeartbeats 4000000 in
theorem first_any (v : Value) (n : Nat) (es : List (Int × Int)) (x : Int) (w : World) (h : IsAdj w v n es) : Calls Try.prog 69 #[v, .int .i64 x] w fun e w' => e = .returned (.int .i64 (Cs.firstI n es x)) ∧ ∃ k, w' = w.drewN k := by
  have HL := Nu.hid (leaving_any v n es x w w h (Below.refl _ _))
  clear h
  unfold Cs.firstI
  cases hL : Cs.outZ n es x with
  | nil =>
    have HL2 : Hid (Calls Try.prog 73 #[v, .int .i64 x] w fun e w' => ∃ ao cap, e = .returned (.slice ao 0 cap) ∧ ∃ k, w' = w.drewN k) := HL.out.mono (by
      rintro e w' ⟨ao, cap, h1, _, h3⟩
      rw [hL] at h1
      exact ⟨ao, cap, h1, h3⟩)
    clear HL hL
    go_enter Try.func69, Try.ntmps69
    go_wp2_with (go_at_call 73; refine HL2.out.mono ?_; rintro e w1 ⟨ao, cap, rfl, k, rfl⟩)
    go_ret
    exact ⟨rfl, k, rfl⟩
  | cons z L =>
    have HL2 : Hid (Calls Try.prog 73 #[v, .int .i64 x] w fun e w' => ∃ b o cap k, e = .returned (.slice (some ⟨b, o, none⟩) (L.length + 1) cap) ∧ w.cell? ⟨b, o, none⟩ = some (.int .i64 z) ∧ w' = w.drewN k) := HL.out.mono (by
      rintro e w' ⟨ao, cap, h1, h2, k, h3⟩
      rw [hL] at h1 h2
      obtain ⟨b, o, rfl, h4⟩ := h2 0 z rfl
      exact ⟨b, o, cap, k, h1, h4, h3⟩)
    have hne : ((L.length : Int) + 1 == 0) = false := by simp; omega
    clear HL hL
    go_enter Try.func69, Try.ntmps69
    go_wp2_with (go_at_call 73; refine HL2.out.mono ?_; rintro e w1 ⟨b, o, cap, k, rfl, hc, rfl⟩)
    go_ret
    exact ⟨rfl, k, rfl⟩

/-- What After answers. -/
def Cs.afterI (n : Nat) (es : List (Int × Int)) (x : Int) : Int :=
  if 0 ≤ x ∧ x < 2 * (es.length : Int) then (Cs.outZ n es (Cs.fr es x.toNat)).getD ((Cs.out es (Cs.fr es x.toNat) x.toNat).length + 1) (-1) else -1

theorem Cs.afterI_no {n : Nat} {es : List (Int × Int)} {x : Int} (h : ¬ (0 ≤ x ∧ x < 2 * (es.length : Int))) : Cs.afterI n es x = -1 := by unfold Cs.afterI; rw [if_neg h]

set_option maxRecDepth 100000 in
set_option maxHeartbeats 4000000 in
theorem after_any (v : Value) (n : Nat) (es : List (Int × Int)) (x : Int) (w : World) (h : IsAdj w v n es) : Calls Try.prog 59 #[v, .int .i64 x] w fun e w' => e = .returned (.int .i64 (Cs.afterI n es x)) ∧ ∃ k, w' = w.drewN k := by
  have HV := Nu.hid (hasHalf_any v n es x w h)
  have HF := Nu.hid (from_any v n es x w h)
  by_cases hx : 0 ≤ x ∧ x < 2 * (es.length : Int)
  · rw [decide_eq_true hx] at HV
    rcases h with ⟨rfl, rfl, rfl⟩ | ⟨B, p, rfl, hv, gd, gs, gh, gp, gt, h⟩
    · simp at hx; omega
    · obtain ⟨i, rfl⟩ : ∃ u : Nat, x = (u : Int) := ⟨x.toNat, by omega⟩
      have hi : i < 2 * es.length := by omega
      have hlt : ∀ i, i < 2 * es.length → Cs.fr es i < n := fun i hi => (Cs.half_lt hv hi).1
      have hul := hlt i hi
      rw [Cs.frI_in hi] at HF
      have ea : Cs.afterI n es i = (Cs.outZ n es (Cs.fr es i)).getD ((Cs.out es (Cs.fr es i) i).length + 1) (-1) := by
        unfold Cs.afterI
        rw [if_pos hx, Int.toNat_natCast]
      rw [ea]
      have hle := Cs.st_le hlt hul
      have hol := Cs.out_lt (es := es) (k := 2 * es.length) hi rfl
      have hfew := hv.few
      have c0 := h.blk.c0
      have c1 := h.blk.c1
      have c2 := h.blk.c2
      have c3 := h.blk.c3
      have d0 := h.deg _ hul
      have d1 := h.start _ hul
      have d3 := h.place i hi
      have hhalf := h.half
      have hpos : Cs.pos es (2 * es.length) i = Cs.st es (2 * es.length) (Cs.fr es i) + (Cs.out es (Cs.fr es i) i).length := rfl
      rw [hpos] at d3
      obtain ⟨j, hj⟩ : ∃ j, (Cs.out es (Cs.fr es i) i).length = j := ⟨_, rfl⟩
      rw [hj] at d3 hol ⊢
      have hnx : ∀ (q : Nat), (Cs.out es (Cs.fr es i) (2 * es.length))[j + 1]? = some q → w.cell? ⟨gh, Cs.st es (2 * es.length) (Cs.fr es i) + (j + 1), none⟩ = some (.int .i64 (q : Int)) := fun q hq => by
        obtain ⟨h1, h2, h3⟩ := Cs.out_of hq
        have := hhalf q h1
        unfold Cs.pos at this
        rw [h2, h3] at this
        exact this
      unfold Cs.outZ
      rw [List.getD_eq_getElem?_getD, List.getElem?_map, Cs.outI_in hul]
      obtain ⟨f, hf⟩ : ∃ f, Cs.fr es i = f := ⟨_, rfl⟩
      rw [hf] at HF hle hol d0 d1 d3 hnx hul ⊢
      obtain ⟨O, hO⟩ : ∃ O, Cs.out es f (2 * es.length) = O := ⟨_, rfl⟩
      rw [hO] at hle hol d0 hnx ⊢
      obtain ⟨s, hs⟩ : ∃ s, Cs.st es (2 * es.length) f = s := ⟨_, rfl⟩
      rw [hs] at hle d1 d3 hnx
      have z0 : (0 : Int) ≤ (i : Int) := by omega
      have z1 : (i : Int) < 2 * (es.length : Int) := by omega
      have z2 : (0 : Int) ≤ (f : Int) := by omega
      have z3 : (f : Int) < (n : Int) := by omega
      clear h hv hlt hhalf hf hO hs hj ea hpos hx
      by_cases hlast : j + 1 = O.length
      · have hge : O[j + 1]? = none := List.getElem?_eq_none (by omega)
        rw [hge]
        have he : ((s : Int) + (j : Int) + 1 == (s : Int) + (O.length : Int)) = true := by simp; omega
        clear hnx hge
        go_enter Try.func59, Try.ntmps59
        go_wp2_with (first | (go_at_call 71; refine HV.out.mono ?_; rintro e w1 ⟨rfl, rfl⟩) | (go_at_call 63; refine HF.out.mono ?_; rintro e w1 ⟨rfl, rfl⟩))
        go_quiet (fail)
        go_wp2
        go_ret
        exact ⟨rfl, _, rfl⟩
      · obtain ⟨q, hq⟩ : ∃ q, O[j + 1]? = some q := ⟨_, List.getElem?_eq_getElem (by omega)⟩
        have hc := hnx q hq
        rw [hq]
        have he : ((s : Int) + (j : Int) + 1 == (s : Int) + (O.length : Int)) = false := by simp; omega
        have z4 : (0 : Int) ≤ (s : Int) + (j : Int) + 1 := by omega
        have z5 : (s : Int) + (j : Int) + 1 < 2 * (es.length : Int) := by omega
        have z6 : ((s : Int) + (j : Int) + 1).toNat = s + (j + 1) := by omega
        clear hnx hq
        go_enter Try.func59, Try.ntmps59
        go_wp2_with (first | (go_at_call 71; refine HV.out.mono ?_; rintro e w1 ⟨rfl, rfl⟩) | (go_at_call 63; refine HF.out.mono ?_; rintro e w1 ⟨rfl, rfl⟩))
        go_quiet (fail)
        go_wp2
        go_ret
        exact ⟨rfl, _, rfl⟩
  · rw [decide_eq_false hx] at HV
    rw [Cs.afterI_no hx]
    clear h hx HF
    go_enter Try.func59, Try.ntmps59
    go_wp2_with (go_at_call 71; refine HV.out.mono ?_; rintro e w1 ⟨rfl, rfl⟩)
    go_ret
    exact ⟨rfl, 0, rfl⟩

end Go.Proofs.Ytponmjipbcmlhaa
