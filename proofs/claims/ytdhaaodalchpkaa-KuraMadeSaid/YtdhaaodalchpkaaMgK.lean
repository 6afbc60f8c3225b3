import Derived.Test.YtdhaaodalchpkaaCsNew
import Derived.Test.YtdhaaodalchpkaaCsFr
import Derived.Test.YtdhaaodalchpkaaMgB
import Derived.BigQuiet
import Derived.Deep.QuietTactic
/-
  What an Adj answers: N, M, Degree, From, To, First, After; also the nil one.
-/
namespace Go.Proofs.Ytdhaaodalchpkaa
open Go.RowKit

/-- v is an Adj of n vertices and the edges es: nil for none. -/
def IsAdj (w : World) (v : Value) (n : Nat) (es : List (Int × Int)) : Prop := (v = .pointer none ∧ n = 0 ∧ es = []) ∨ ∃ B p, v = .pointer (some ⟨p, 0, none⟩) ∧ Si.Val n es ∧ AdjAt w B p n es

theorem IsAdj.later {w w' : World} {v : Value} {n : Nat} {es : List (Int × Int)} (h : IsAdj w v n es) (hb : Below w.heap.size w w') : IsAdj w' v n es := by
  rcases h with h | ⟨B, p, h1, h2, h3⟩
  · exact .inl h
  · exact .inr ⟨B, p, h1, h2, h3.later hb⟩

theorem IsAdj.bounds {w : World} {v : Value} {n : Nat} {es : List (Int × Int)} (h : IsAdj w v n es) : n ≤ 1048576 ∧ es.length ≤ 4194304 := by
  rcases h with ⟨_, rfl, rfl⟩ | ⟨B, p, _, h2, _⟩
  · simp
  · have := h2.hi
    have := h2.few
    omega

set_option maxRecDepth 100000 in
set_option maxHeartbeats 1000000 in
theorem aN_any (v : Value) (n : Nat) (es : List (Int × Int)) (w : World) (h : IsAdj w v n es) : Calls Try.prog 50 #[v] w fun e w' => e = .returned (.int .i64 (n : Int)) ∧ w' = w := by
  rcases h with ⟨rfl, rfl, rfl⟩ | ⟨B, p, rfl, hv, gd, gs, gh, gp, gt, h⟩
  · go_enter Try.func50, Try.ntmps50
    go_wp2
    go_ret
    exact ⟨rfl, rfl⟩
  · have c0 := h.blk.c0
    clear h
    go_enter Try.func50, Try.ntmps50
    go_wp2
    go_ret
    exact ⟨rfl, rfl⟩

set_option maxRecDepth 100000 in
set_option maxHeartbeats 1000000 in
theorem aM_any (v : Value) (n : Nat) (es : List (Int × Int)) (w : World) (h : IsAdj w v n es) : Calls Try.prog 42 #[v] w fun e w' => e = .returned (.int .i64 (es.length : Int)) ∧ w' = w := by
  have hb := h.bounds
  rcases h with ⟨rfl, rfl, rfl⟩ | ⟨B, p, rfl, hv, gd, gs, gh, gp, gt, h⟩
  · go_enter Try.func42, Try.ntmps42
    go_wp2
    go_ret
    exact ⟨rfl, rfl⟩
  · have c4 := h.blk.c4
    have hdv : (2 * (es.length : Int)).tdiv 2 = es.length := by rw [Int.tdiv_eq_ediv_of_nonneg (by omega)]; omega
    clear h
    go_enter Try.func42, Try.ntmps42
    go_wp2
    go_ret
    exact ⟨rfl, rfl⟩

set_option maxRecDepth 100000 in
set_option maxHeartbeats 1000000 in
theorem hasVertex_any (v : Value) (n : Nat) (es : List (Int × Int)) (x : Int) (w : World) (h : IsAdj w v n es) : Calls Try.prog 64 #[v, .int .i64 x] w fun e w' => e = .returned (.bool (decide (0 ≤ x ∧ x < (n : Int)))) ∧ w' = w := by
  have HN := Nu.hid (aN_any v n es w h)
  clear h
  by_cases h0 : 0 ≤ x
  · have hd : decide (0 ≤ x ∧ x < (n : Int)) = decide (x < (n : Int)) := by simp [h0]
    rw [hd]
    go_enter Try.func64, Try.ntmps64
    go_wp2_with (go_at_call 50; refine HN.out.mono ?_; rintro e w1 ⟨rfl, rfl⟩)
    go_ret
    exact ⟨rfl, rfl⟩
  · have hd : decide (0 ≤ x ∧ x < (n : Int)) = false := by simp [h0]
    rw [hd]
    go_enter Try.func64, Try.ntmps64
    go_wp2_with (go_at_call 50; refine HN.out.mono ?_; rintro e w1 ⟨rfl, rfl⟩)
    go_ret
    exact ⟨rfl, rfl⟩

set_option maxRecDepth 100000 in
set_option maxHeartbeats 1000000 in
theorem hasHalf_any (v : Value) (n : Nat) (es : List (Int × Int)) (x : Int) (w : World) (h : IsAdj w v n es) : Calls Try.prog 68 #[v, .int .i64 x] w fun e w' => e = .returned (.bool (decide (0 ≤ x ∧ x < 2 * (es.length : Int)))) ∧ w' = w := by
  have HN := Nu.hid (aM_any v n es w h)
  have hb := h.bounds
  clear h
  by_cases h0 : 0 ≤ x
  · have hd : decide (0 ≤ x ∧ x < 2 * (es.length : Int)) = decide (x < 2 * (es.length : Int)) := by simp [h0]
    rw [hd]
    go_enter Try.func68, Try.ntmps68
    go_wp2_with (go_at_call 42; refine HN.out.mono ?_; rintro e w1 ⟨rfl, rfl⟩)
    go_ret
    exact ⟨rfl, rfl⟩
  · have hd : decide (0 ≤ x ∧ x < 2 * (es.length : Int)) = false := by simp [h0]
    rw [hd]
    go_enter Try.func68, Try.ntmps68
    go_wp2_with (go_at_call 42; refine HN.out.mono ?_; rintro e w1 ⟨rfl, rfl⟩)
    go_ret
    exact ⟨rfl, rfl⟩

set_option maxRecDepth 100000 in
set_option maxHeartbeats 1000000 in
theorem to_any (v : Value) (n : Nat) (es : List (Int × Int)) (x : Int) (w : World) (h : IsAdj w v n es) : Calls Try.prog 60 #[v, .int .i64 x] w fun e w' => e = .returned (.int .i64 (Cs.toI es x)) ∧ w' = w := by
  have HV := Nu.hid (hasHalf_any v n es x w h)
  by_cases hx : 0 ≤ x ∧ x < 2 * (es.length : Int)
  · rw [decide_eq_true hx] at HV
    rcases h with ⟨rfl, rfl, rfl⟩ | ⟨B, p, rfl, hv, gd, gs, gh, gp, gt, h⟩
    · simp at hx; omega
    · obtain ⟨u, rfl⟩ : ∃ u : Nat, x = (u : Int) := ⟨x.toNat, by omega⟩
      obtain ⟨x0, x1⟩ := hx
      have c0 := h.blk.c4
      have d0 := h.goes u (by omega)
      rw [Cs.toI_in (by omega)]
      clear h hv
      go_enter Try.func60, Try.ntmps60
      go_wp2_with (go_at_call 68; refine HV.out.mono ?_; rintro e w1 ⟨rfl, rfl⟩)
      go_ret
      exact ⟨rfl, rfl⟩
  · rw [decide_eq_false hx] at HV
    rw [Cs.toI_no hx]
    clear h hx
    go_enter Try.func60, Try.ntmps60
    go_wp2_with (go_at_call 68; refine HV.out.mono ?_; rintro e w1 ⟨rfl, rfl⟩)
    go_ret
    exact ⟨rfl, rfl⟩

set_option maxRecDepth 100000 in
set_option maxHeartbeats 1000000 in
theorem from_any (v : Value) (n : Nat) (es : List (Int × Int)) (x : Int) (w : World) (h : IsAdj w v n es) : Calls Try.prog 58 #[v, .int .i64 x] w fun e w' => e = .returned (.int .i64 (Cs.frI es x)) ∧ w' = w := by
  have HV := Nu.hid (hasHalf_any v n es x w h)
  by_cases hx : 0 ≤ x ∧ x < 2 * (es.length : Int)
  · rw [decide_eq_true hx] at HV
    rcases h with ⟨rfl, rfl, rfl⟩ | ⟨B, p, rfl, hv, gd, gs, gh, gp, gt, h⟩
    · simp at hx; omega
    · obtain ⟨u, rfl⟩ : ∃ u : Nat, x = (u : Int) := ⟨x.toNat, by omega⟩
      obtain ⟨x0, x1⟩ := hx
      have ht := Cs.twin_lt (i := u) (m := es.length) (by omega)
      have c0 := h.blk.c4
      have hfew := hv.few
      have hxt := Cs.xor_twin u (by omega)
      have ht0 : (0 : Int) ≤ (Cs.twin u : Int) := by omega
      have ht1 : (Cs.twin u : Int) < 2 * (es.length : Int) := by omega
      have d0 := h.goes (Cs.twin u) ht
      rw [Cs.frI_in (by omega)]
      rw [Cs.to_twin] at d0
      clear h hv
      go_enter Try.func58, Try.ntmps58
      go_wp2_with (go_at_call 68; refine HV.out.mono ?_; rintro e w1 ⟨rfl, rfl⟩)
      go_ret
      exact ⟨rfl, rfl⟩
  · rw [decide_eq_false hx] at HV
    rw [Cs.frI_no hx]
    clear h hx
    go_enter Try.func58, Try.ntmps58
    go_wp2_with (go_at_call 68; refine HV.out.mono ?_; rintro e w1 ⟨rfl, rfl⟩)
    go_ret
    exact ⟨rfl, rfl⟩

/-- w0: an earlier world, in which the Adj lay already. -/
def LeavPost (n : Nat) (es : List (Int × Int)) (x : Int) (w0 w : World) (e : Ending) (w' : World) : Prop :=
  ∃ ao cap, e = .returned (.slice ao (Cs.outZ n es x).length cap) ∧ IntsAt w0 ao (Cs.outZ n es x) ∧ ∃ k, w' = w.drewN k

set_option maxRecDepth 100000 in
set_option maxHeartbeats 4000000 in
theorem leaving_any (v : Value) (n : Nat) (es : List (Int × Int)) (x : Int) (w0 w : World) (h0 : IsAdj w0 v n es) (hb : Below w0.heap.size w0 w) : Calls Try.prog 73 #[v, .int .i64 x] w (LeavPost n es x w0 w) := by
  have HV := Nu.hid (hasVertex_any v n es x w (h0.later hb))
  by_cases hx : 0 ≤ x ∧ x < (n : Int)
  · rw [decide_eq_true hx] at HV
    rcases h0 with ⟨rfl, rfl, rfl⟩ | ⟨B, p, rfl, hv, gd, gs, gh, gp, gt, h0⟩
    · omega
    · obtain ⟨u, rfl⟩ : ∃ u : Nat, x = (u : Int) := ⟨x.toNat, by omega⟩
      obtain ⟨x0, x1⟩ := hx
      have hul : u < n := by omega
      have h := h0.same hb.size fun k _ h2 => hb.block k h2
      have c0 := h.blk.c0
      have c1 := h.blk.c1
      have c2 := h.blk.c2
      have d0 := h.deg u hul
      have d1 := h.start u hul
      have hlt : ∀ i, i < 2 * es.length → Cs.fr es i < n := fun i hi => (Cs.half_lt hv hi).1
      have hle := Cs.st_le hlt hul
      have hfew := hv.few
      have hhalf := h0.half
      have hcell : ∀ (j : Nat) (z : Int), (Cs.outZ n es u)[j]? = some z → w0.cell? ⟨gh, Cs.st es (2 * es.length) u + j, none⟩ = some (.int .i64 z) := fun j z hj => by
        unfold Cs.outZ at hj
        rw [List.getElem?_map, Cs.outI_in hul] at hj
        obtain ⟨i, hi, rfl⟩ := Option.map_eq_some_iff.1 hj
        obtain ⟨h1, h2, h3⟩ := Cs.out_of hi
        have := hhalf i h1
        unfold Cs.pos at this
        rw [h2, h3] at this
        exact this
      have hll : (Cs.outZ n es u).length = (Cs.out es u (2 * es.length)).length := by rw [Cs.outZ_len, Cs.outI_in hul]
      have HC := Nu.hid hcell
      have HLL := Nu.hid hll
      obtain ⟨s, hs⟩ : ∃ s, Cs.st es (2 * es.length) u = s := ⟨_, rfl⟩
      obtain ⟨d, hd⟩ : ∃ d, (Cs.out es u (2 * es.length)).length = d := ⟨_, rfl⟩
      rw [hs] at d1 hle HC
      rw [hd] at d0 hle HLL
      have s0 : (0 : Int) ≤ (s : Int) := by omega
      have s1 : (s : Int) ≤ 2 * (es.length : Int) := by omega
      have s2 : (0 : Int) ≤ (d : Int) := by omega
      have s3 : (d : Int) ≤ 2 * (es.length : Int) - (s : Int) := by omega
      clear h h0 hb hv hlt hhalf hcell hll hs hd
      go_enter Try.func73, Try.ntmps73
      go_wp2_with (go_at_call 64; refine HV.out.mono ?_; rintro e w1 ⟨rfl, rfl⟩)
      go_quiet (fail)
      obtain ⟨A, hA⟩ : ∃ A : Option Addr, (if 2 * es.length = s then some ⟨gh, 0, none⟩ else some ⟨gh, s, none⟩) = A := ⟨_, rfl⟩
      rw [hA]
      have HA := Nu.hid hA
      clear hA
      go_wp2
      go_ret
      refine ⟨A, _, by rw [HLL.out]; rfl, fun j z hj => ?_, nq, rfl⟩
      have hjl := (List.getElem?_eq_some_iff.1 hj).1
      rw [HLL.out] at hjl
      have := HA.out
      rw [if_neg (by omega)] at this
      exact ⟨gh, s, this.symm, HC.out j z hj⟩
  · rw [decide_eq_false hx] at HV
    have ho : Cs.outZ n es x = [] := by unfold Cs.outZ; rw [Cs.outI_no hx]; rfl
    have HO := Nu.hid ho
    clear h0 hb hx ho
    go_enter Try.func73, Try.ntmps73
    go_wp2_with (go_at_call 64; refine HV.out.mono ?_; rintro e w1 ⟨rfl, rfl⟩)
    go_ret
    refine ⟨none, 0, by rw [HO.out]; rfl, by rw [HO.out]; exact IntsAt.nil _ _, 0, rfl⟩

end Go.Proofs.Ytdhaaodalchpkaa

/-
  What an Adj answers: Degree.
-/
namespace Go.Proofs.Ytdhaaodalchpkaa
open Go.RowKit

set_option maxRecDepth 100000 in
set_option maxHeartbeats 1000000 in
theorem degree_any (v : Value) (n : Nat) (es : List (Int × Int)) (x : Int) (w : World) (h : IsAdj w v n es) : Calls Try.prog 51 #[v, .int .i64 x] w fun e w' => e = .returned (.int .i64 ((Cs.outI n es x).length : Int)) ∧ w' = w := by
  have HV := Nu.hid (hasVertex_any v n es x w h)
  by_cases hx : 0 ≤ x ∧ x < (n : Int)
  · rw [decide_eq_true hx] at HV
    rcases h with ⟨rfl, rfl, rfl⟩ | ⟨B, p, rfl, hv, gd, gs, gh, gp, gt, h⟩
    · omega
    · obtain ⟨u, rfl⟩ : ∃ u : Nat, x = (u : Int) := ⟨x.toNat, by omega⟩
      obtain ⟨x0, x1⟩ := hx
      have c0 := h.blk.c0
      have d0 := h.deg u (by omega)
      rw [Cs.outI_in (by omega)]
      clear h hv
      go_enter Try.func51, Try.ntmps51
      go_wp2_with (go_at_call 64; refine HV.out.mono ?_; rintro e w1 ⟨rfl, rfl⟩)
      go_ret
      exact ⟨rfl, rfl⟩
  · rw [decide_eq_false hx] at HV
    rw [Cs.outI_no hx]
    clear h hx
    go_enter Try.func51, Try.ntmps51
    go_wp2_with (go_at_call 64; refine HV.out.mono ?_; rintro e w1 ⟨rfl, rfl⟩)
    go_ret
    exact ⟨rfl, rfl⟩

end Go.Proofs.Ytdhaaodalchpkaa

/-
  What an Adj answers: First, After.
-/
namespace Go.Proofs.Ytdhaaodalchpkaa
open Go.RowKit

/-- What First answers. -/
def Cs.firstI (n : Nat) (es : List (Int × Int)) (x : Int) : Int := (Cs.outZ n es x).getD 0 (-1)

set_option maxRecDepth 100000 in
set_option maxHeartbeats 4000000 in
theorem first_any (v : Value) (n : Nat) (es : List (Int × Int)) (x : Int) (w : World) (h : IsAdj w v n es) : Calls Try.prog 69 #[v, .int .i64 x] w fun e w' => e = .returned (.int .i64 (Cs.firstI n es x)) ∧ ∃ k, w' = w.drewN k := by
  have HL := Nu.hid (leaving_any v n es x w w h (Below.refl _ _))
  clear h
  unfold Cs.firstI
  cases hL : Cs.outZ n es x with
  | nil =>
    have HL2 : Hid (Calls Try.prog 73 #[v, .int .i64 x] w fun e w' => ∃ ao cap, e = .returned (.slice ao 0 cap) ∧ ∃ k, w' = w.drewN k) := HL.out.mono (by
      rintro e w' ⟨ao, cap, h1, _, h3⟩
      rw [hL] at h1
      exact ⟨ao, cap, h1, h3⟩)
    clear HL hL
    go_enter Try.func69, Try.ntmps69
    go_wp2_with (go_at_call 73; refine HL2.out.mono ?_; rintro e w1 ⟨ao, cap, rfl, k, rfl⟩)
    go_ret
    exact ⟨rfl, k, rfl⟩
  | cons z L =>
    have HL2 : Hid (Calls Try.prog 73 #[v, .int .i64 x] w fun e w' => ∃ b o cap k, e = .returned (.slice (some ⟨b, o, none⟩) (L.length + 1) cap) ∧ w.cell? ⟨b, o, none⟩ = some (.int .i64 z) ∧ w' = w.drewN k) := HL.out.mono (by
      rintro e w' ⟨ao, cap, h1, h2, k, h3⟩
      rw [hL] at h1 h2
      obtain ⟨b, o, rfl, h4⟩ := h2 0 z rfl
      exact ⟨b, o, cap, k, h1, h4, h3⟩)
    have hne : ((L.length : Int) + 1 == 0) = false := by simp; omega
    clear HL hL
    go_enter Try.func69, Try.ntmps69
    go_wp2_with (go_at_call 73; refine HL2.out.mono ?_; rintro e w1 ⟨b, o, cap, k, rfl, hc, rfl⟩)
    go_ret
    exact ⟨rfl, k, rfl⟩

/-- What After answers. -/
def Cs.afterI (n : Nat) (es : List (Int × Int)) (x : Int) : Int :=
  if 0 ≤ x ∧ x < 2 * (es.length : Int) then (Cs.outZ n es (Cs.fr es x.toNat)).getD ((Cs.out es (Cs.fr es x.toNat) x.toNat).length + 1) (-1) else -1

theorem Cs.afterI_no {n : Nat} {es : List (Int × Int)} {x : Int} (h : ¬ (0 ≤ x ∧ x < 2 * (es.length : Int))) : Cs.afterI n es x = -1 := by unfold Cs.afterI; rw [if_neg h]

set_option maxRecDepth 100000 in
set_option maxHeartbeats 4000000 in
theorem after_any (v : Value) (n : Nat) (es : List (Int × Int)) (x : Int) (w : World) (h : IsAdj w v n es) : Calls Try.prog 70 #[v, .int .i64 x] w fun e w' => e = .returned (.int .i64 (Cs.afterI n es x)) ∧ ∃ k, w' = w.drewN k := by
  have HV := Nu.hid (hasHalf_any v n es x w h)
  have HF := Nu.hid (from_any v n es x w h)
  by_cases hx : 0 ≤ x ∧ x < 2 * (es.length : Int)
  · rw [decide_eq_true hx] at HV
    rcases h with ⟨rfl, rfl, rfl⟩ | ⟨B, p, rfl, hv, gd, gs, gh, gp, gt, h⟩
    · simp at hx; omega
    · obtain ⟨i, rfl⟩ : ∃ u : Nat, x = (u : Int) := ⟨x.toNat, by omega⟩
      have hi : i < 2 * es.length := by omega
      have hlt : ∀ i, i < 2 * es.length → Cs.fr es i < n := fun i hi => (Cs.half_lt hv hi).1
      have hul := hlt i hi
      rw [Cs.frI_in hi] at HF
      have ea : Cs.afterI n es i = (Cs.outZ n es (Cs.fr es i)).getD ((Cs.out es (Cs.fr es i) i).length + 1) (-1) := by
        unfold Cs.afterI
        rw [if_pos hx, Int.toNat_natCast]
      rw [ea]
      have hle := Cs.st_le hlt hul
      have hol := Cs.out_lt (es := es) (k := 2 * es.length) hi rfl
      have hfew := hv.few
      have c0 := h.blk.c0
      have c1 := h.blk.c1
      have c2 := h.blk.c2
      have c3 := h.blk.c3
      have d0 := h.deg _ hul
      have d1 := h.start _ hul
      have d3 := h.place i hi
      have hhalf := h.half
      have hpos : Cs.pos es (2 * es.length) i = Cs.st es (2 * es.length) (Cs.fr es i) + (Cs.out es (Cs.fr es i) i).length := rfl
      rw [hpos] at d3
      obtain ⟨j, hj⟩ : ∃ j, (Cs.out es (Cs.fr es i) i).length = j := ⟨_, rfl⟩
      rw [hj] at d3 hol ⊢
      have hnx : ∀ (q : Nat), (Cs.out es (Cs.fr es i) (2 * es.length))[j + 1]? = some q → w.cell? ⟨gh, Cs.st es (2 * es.length) (Cs.fr es i) + (j + 1), none⟩ = some (.int .i64 (q : Int)) := fun q hq => by
        obtain ⟨h1, h2, h3⟩ := Cs.out_of hq
        have := hhalf q h1
        unfold Cs.pos at this
        rw [h2, h3] at this
        exact this
      unfold Cs.outZ
      rw [List.getD_eq_getElem?_getD, List.getElem?_map, Cs.outI_in hul]
      obtain ⟨f, hf⟩ : ∃ f, Cs.fr es i = f := ⟨_, rfl⟩
      rw [hf] at HF hle hol d0 d1 d3 hnx hul ⊢
      obtain ⟨O, hO⟩ : ∃ O, Cs.out es f (2 * es.length) = O := ⟨_, rfl⟩
      rw [hO] at hle hol d0 hnx ⊢
      obtain ⟨s, hs⟩ : ∃ s, Cs.st es (2 * es.length) f = s := ⟨_, rfl⟩
      rw [hs] at hle d1 d3 hnx
      have z0 : (0 : Int) ≤ (i : Int) := by omega
      have z1 : (i : Int) < 2 * (es.length : Int) := by omega
      have z2 : (0 : Int) ≤ (f : Int) := by omega
      have z3 : (f : Int) < (n : Int) := by omega
      clear h hv hlt hhalf hf hO hs hj ea hpos hx
      by_cases hlast : j + 1 = O.length
      · have hge : O[j + 1]? = none := List.getElem?_eq_none (by omega)
        rw [hge]
        have he : ((s : Int) + (j : Int) + 1 == (s : Int) + (O.length : Int)) = true := by simp; omega
        clear hnx hge
        go_enter Try.func70, Try.ntmps70
        go_wp2_with (first | (go_at_call 68; refine HV.out.mono ?_; rintro e w1 ⟨rfl, rfl⟩) | (go_at_call 58; refine HF.out.mono ?_; rintro e w1 ⟨rfl, rfl⟩))
        go_quiet (fail)
        go_wp2
        go_ret
        exact ⟨rfl, _, rfl⟩
      · obtain ⟨q, hq⟩ : ∃ q, O[j + 1]? = some q := ⟨_, List.getElem?_eq_getElem (by omega)⟩
        have hc := hnx q hq
        rw [hq]
        have he : ((s : Int) + (j : Int) + 1 == (s : Int) + (O.length : Int)) = false := by simp; omega
        have z4 : (0 : Int) ≤ (s : Int) + (j : Int) + 1 := by omega
        have z5 : (s : Int) + (j : Int) + 1 < 2 * (es.length : Int) := by omega
        have z6 : ((s : Int) + (j : Int) + 1).toNat = s + (j + 1) := by omega
        clear hnx hq
        go_enter Try.func70, Try.ntmps70
        go_wp2_with (first | (go_at_call 68; refine HV.out.mono ?_; rintro e w1 ⟨rfl, rfl⟩) | (go_at_call 58; refine HF.out.mono ?_; rintro e w1 ⟨rfl, rfl⟩))
        go_quiet (fail)
        go_wp2
        go_ret
        exact ⟨rfl, _, rfl⟩
  · rw [decide_eq_false hx] at HV
    rw [Cs.afterI_no hx]
    clear h hx HF
    go_enter Try.func70, Try.ntmps70
    go_wp2_with (go_at_call 68; refine HV.out.mono ?_; rintro e w1 ⟨rfl, rfl⟩)
    go_ret
    exact ⟨rfl, 0, rfl⟩

end Go.Proofs.Ytdhaaodalchpkaa
