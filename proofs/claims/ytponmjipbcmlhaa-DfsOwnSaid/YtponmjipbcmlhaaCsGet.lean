/-
  What an Adj answers: N, M, Degree, From, To, First, After; also the nil one.
-/
import Derived.Test.YtponmjipbcmlhaaCsNew
import Derived.Test.YtponmjipbcmlhaaCsSameI
import Derived.BigQuiet
import Derived.Deep.QuietTactic
namespace Go.Proofs.Ytponmjipbcmlhaa
open Go.RowKit

/-- v is an Adj of n vertices and the edges es: nil for none. -/
def IsAdj (w : World) (v : Value) (n : Nat) (es : List (Int × Int)) : Prop := (v = .pointer none ∧ n = 0 ∧ es = []) ∨ ∃ B p, v = .pointer (some ⟨p, 0, none⟩) ∧ Si.Val n es ∧ AdjAt w B p n es

theorem IsAdj.later {w w' : World} {v : Value} {n : Nat} {es : List (Int × Int)} (h : IsAdj w v n es) (hb : Below w.heap.size w w') : IsAdj w' v n es := by
  rcases h with h | ⟨B, p, h1, h2, h3⟩
  · exact .inl h
  · exact .inr ⟨B, p, h1, h2, h3.later hb⟩

theorem IsAdj.bounds {w : World} {v : Value} {n : Nat} {es : List (Int × Int)} (h : IsAdj w v n es) : n ≤ 1048576 ∧ es.length ≤ 4194304 := by
  rcases h with ⟨_, rfl, rfl⟩ | ⟨B, p, _, h2, _⟩
  · simp
  · have := h2.hi
    have := h2.few
    omega

set_option maxRecDepth 100000 in
set_option maxHeartbeats 1000000 in
theorem aN_any (v : Value) (n : Nat) (es : List (Int × Int)) (w : World) (h : IsAdj w v n es) : Calls Try.prog 39 #[v] w fun e w' => e = .returned (.int .i64 (n : Int)) ∧ w' = w := by
  rcases h with ⟨rfl, rfl, rfl⟩ | ⟨B, p, rfl, hv, gd, gs, gh, gp, gt, h⟩
  · go_enter Try.func39, Try.ntmps39
    go_wp2
    go_ret
    exact ⟨rfl, rfl⟩
  · have c0 := h.blk.c0
    clear h
    go_enter Try.func39, Try.ntmps39
    go_wp2
    go_ret
    exact ⟨rfl, rfl⟩

set_option maxRecDepth 100000 in
set_option maxHeartbeats 1000000 in
theorem aM_any (v : Value) (n : Nat) (es : List (Int × Int)) (w : World) (h : IsAdj w v n es) : Calls Try.prog 54 #[v] w fun e w' => e = .returned (.int .i64 (es.length : Int)) ∧ w' = w := by
  have hb := h.bounds
  rcases h with ⟨rfl, rfl, rfl⟩ | ⟨B, p, rfl, hv, gd, gs, gh, gp, gt, h⟩
  · go_enter Try.func54, Try.ntmps54
    go_wp2
    go_ret
    exact ⟨rfl, rfl⟩
  · have c4 := h.blk.c4
    have hdv : (2 * (es.length : Int)).tdiv 2 = es.length := by rw [Int.tdiv_eq_ediv_of_nonneg (by omega)]; omega
    clear h
    go_enter Try.func54, Try.ntmps54
    go_wp2
    go_ret
    exact ⟨rfl, rfl⟩

set_option maxRecDepth 100000 in
set_option maxHeartbeats 1000000 in
theorem hasVertex_any (v : Value) (n : Nat) (es : List (Int × Int)) (x : Int) (w : World) (h : IsAdj w v n es) : Calls Try.prog 76 #[v, .int .i64 x] w fun e w' => e = .returned (.bool (decide (0 ≤ x ∧ x < (n : Int)))) ∧ w' = w := by
  have HN := Nu.hid (aN_any v n es w h)
  clear h
  by_cases h0 : 0 ≤ x
  · have hd : decide (0 ≤ x ∧ x < (n : Int)) = decide (x < (n : Int)) := by simp [h0]
    rw [hd]
    go_enter Try.func76, Try.ntmps76
    go_wp2_with (go_at_call 39; refine HN.out.mono ?_; rintro e w1 ⟨rfl, rfl⟩)
    go_ret
    exact ⟨rfl, rfl⟩
  · have hd : decide (0 ≤ x ∧ x < (n : Int)) = false := by simp [h0]
    rw [hd]
    go_enter Try.func76, Try.ntmps76
    go_wp2_with (go_at_call 39; refine HN.out.mono ?_; rintro e w1 ⟨rfl, rfl⟩)
    go_ret
    exact ⟨rfl, rfl⟩

set_option maxRecDepth 100000 in
set_option maxHeartbeats 1000000 in
theorem hasHalf_any (v : Value) (n : Nat) (es : List (Int × Int)) (x : Int) (w : World) (h : IsAdj w v n es) : Calls Try.prog 71 #[v, .int .i64 x] w fun e w' => e = .returned (.bool (decide (0 ≤ x ∧ x < 2 * (es.length : Int)))) ∧ w' = w := by
  have HN := Nu.hid (aM_any v n es w h)
  have hb := h.bounds
  clear h
  by_cases h0 : 0 ≤ x
  · have hd : decide (0 ≤ x ∧ x < 2 * (es.length : Int)) = decide (x < 2 * (es.length : Int)) := by simp [h0]
    rw [hd]
    go_enter Try.func71, Try.ntmps71
    go_wp2_with (go_at_call 54; refine HN.out.mono ?_; rintro e w1 ⟨rfl, rfl⟩)
    go_ret
    exact ⟨rfl, rfl⟩
  · have hd : decide (0 ≤ x ∧ x < 2 * (es.length : Int)) = false := by simp [h0]
    rw [hd]
    go_enter Try.func71, Try.ntmps71
    go_wp2_with (go_at_call 54; refine HN.out.mono ?_; rintro e w1 ⟨rfl, rfl⟩)
    go_ret
    exact ⟨rfl, rfl⟩

/-- What leaves a number, as ints. -/
def Cs.outZ (n : Nat) (es : List (Int × Int)) (x : Int) : List Int := (Cs.outI n es x).map fun i : Nat => (i : Int)

theorem Cs.outZ_len {n : Nat} {es : List (Int × Int)} {x : Int} : (Cs.outZ n es x).length = (Cs.outI n es x).length := by simp [Cs.outZ]

/-- What From answers. -/
def Cs.frI (es : List (Int × Int)) (x : Int) : Int := if 0 ≤ x ∧ x < 2 * (es.length : Int) then (Cs.fr es x.toNat : Int) else -1
/-- What To answers. -/
def Cs.toI (es : List (Int × Int)) (x : Int) : Int := if 0 ≤ x ∧ x < 2 * (es.length : Int) then (Cs.to es x.toNat : Int) else -1

theorem Cs.frI_in {es : List (Int × Int)} {i : Nat} (h : i < 2 * es.length) : Cs.frI es i = (Cs.fr es i : Int) := by
  unfold Cs.frI
  rw [if_pos (by omega)]
  simp
theorem Cs.toI_in {es : List (Int × Int)} {i : Nat} (h : i < 2 * es.length) : Cs.toI es i = (Cs.to es i : Int) := by
  unfold Cs.toI
  rw [if_pos (by omega)]
  simp
theorem Cs.frI_no {es : List (Int × Int)} {x : Int} (h : ¬ (0 ≤ x ∧ x < 2 * (es.length : Int))) : Cs.frI es x = -1 := by unfold Cs.frI; rw [if_neg h]
theorem Cs.toI_no {es : List (Int × Int)} {x : Int} (h : ¬ (0 ≤ x ∧ x < 2 * (es.length : Int))) : Cs.toI es x = -1 := by unfold Cs.toI; rw [if_neg h]

set_option maxRecDepth 100000 in
set_option maxHeartbeats 1000000 in
theorem to_any (v : Value) (n : Nat) (es : List (Int × Int)) (x : Int) (w : World) (h : IsAdj w v n es) : Calls Try.prog 65 #[v, .int .i64 x] w fun e w' => e = .returned (.int .i64 (Cs.toI es x)) ∧ w' = w := by
  have HV := Nu.hid (hasHalf_any v n es x w h)
  by_cases hx : 0 ≤ x ∧ x < 2 * (es.length : Int)
  · rw [decide_eq_true hx] at HV
    rcases h with ⟨rfl, rfl, rfl⟩ | ⟨B, p, rfl, hv, gd, gs, gh, gp, gt, h⟩
    · simp at hx; omega
    · obtain ⟨u, rfl⟩ : ∃ u : Nat, x = (u : Int) := ⟨x.toNat, by omega⟩
      obtain ⟨x0, x1⟩ := hx
      have c0 := h.blk.c4
      have d0 := h.goes u (by omega)
      rw [Cs.toI_in (by omega)]
      clear h hv
      go_enter Try.func65, Try.ntmps65
      go_wp2_with (go_at_call 71; refine HV.out.mono ?_; rintro e w1 ⟨rfl, rfl⟩)
      go_ret
      exact ⟨rfl, rfl⟩
  · rw [decide_eq_false hx] at HV
    rw [Cs.toI_no hx]
    clear h hx
    go_enter Try.func65, Try.ntmps65
    go_wp2_with (go_at_call 71; refine HV.out.mono ?_; rintro e w1 ⟨rfl, rfl⟩)
    go_ret
    exact ⟨rfl, rfl⟩

theorem Cs.nat_xor_one (u : Nat) : u ^^^ 1 = Cs.twin u := by
  have h1 : (u ^^^ 1) / 2 = u / 2 := by rw [Nat.xor_div_two]; simp
  have h2 : (u ^^^ 1) % 2 = (u + 1) % 2 := by
    have := Nat.xor_mod_two_pow (a := u) (b := 1) (n := 1)
    simp at this
    rw [this]
    rcases Nat.mod_two_eq_zero_or_one u with h | h <;> rw [h] <;> simp <;> omega
  unfold Cs.twin
  split <;> omega

theorem Cs.xor_twin (u : Nat) (hu : u < 4611686018427387904) : bits .xor .i64 (u : Int) 1 = (Cs.twin u : Int) := by
  have h1 : (BitVec.ofInt 64 (u : Int)).toNat = u := by
    rw [BitVec.ofInt_natCast, BitVec.toNat_ofNat]; exact Nat.mod_eq_of_lt (by omega)
  have h2 : (BitVec.ofInt 64 (1 : Int)).toNat = 1 := by decide
  show IntKind.i64.wrap ((BitVec.ofInt 64 (u : Int) ^^^ BitVec.ofInt 64 (1 : Int)).toNat : Int) = _
  have h3 := Cs.nat_xor_one u
  have h4 : Cs.twin u ≤ u + 1 := by unfold Cs.twin; split <;> omega
  rw [BitVec.toNat_xor, h1, h2, IntKind.wrap_i64, h3]
  omega

set_option maxRecDepth 100000 in
set_option maxHeartbeats 1000000 in
theorem from_any (v : Value) (n : Nat) (es : List (Int × Int)) (x : Int) (w : World) (h : IsAdj w v n es) : Calls Try.prog 63 #[v, .int .i64 x] w fun e w' => e = .returned (.int .i64 (Cs.frI es x)) ∧ w' = w := by
  have HV := Nu.hid (hasHalf_any v n es x w h)
  by_cases hx : 0 ≤ x ∧ x < 2 * (es.length : Int)
  · rw [decide_eq_true hx] at HV
    rcases h with ⟨rfl, rfl, rfl⟩ | ⟨B, p, rfl, hv, gd, gs, gh, gp, gt, h⟩
    · simp at hx; omega
    · obtain ⟨u, rfl⟩ : ∃ u : Nat, x = (u : Int) := ⟨x.toNat, by omega⟩
      obtain ⟨x0, x1⟩ := hx
      have ht := Cs.twin_lt (i := u) (m := es.length) (by omega)
      have c0 := h.blk.c4
      have hfew := hv.few
      have hxt := Cs.xor_twin u (by omega)
      have ht0 : (0 : Int) ≤ (Cs.twin u : Int) := by omega
      have ht1 : (Cs.twin u : Int) < 2 * (es.length : Int) := by omega
      have d0 := h.goes (Cs.twin u) ht
      rw [Cs.frI_in (by omega)]
      rw [Cs.to_twin] at d0
      clear h hv
      go_enter Try.func63, Try.ntmps63
      go_wp2_with (go_at_call 71; refine HV.out.mono ?_; rintro e w1 ⟨rfl, rfl⟩)
      go_ret
      exact ⟨rfl, rfl⟩
  · rw [decide_eq_false hx] at HV
    rw [Cs.frI_no hx]
    clear h hx
    go_enter Try.func63, Try.ntmps63
    go_wp2_with (go_at_call 71; refine HV.out.mono ?_; rintro e w1 ⟨rfl, rfl⟩)
    go_ret
    exact ⟨rfl, rfl⟩

/-- w0: an earlier world, in which the Adj lay already. -/
def LeavPost (n : Nat) (es : List (Int × Int)) (x : Int) (w0 w : World) (e : Ending) (w' : World) : Prop :=
  ∃ ao cap, e = .returned (.slice ao (Cs.outZ n es x).length cap) ∧ IntsAt w0 ao (Cs.outZ n es x) ∧ ∃ k, w' = w.drewN k

set_option maxRecDepth 100000 in
set_option maxHeartbeats 4000000 in
theorem leaving_any (v : Value) (n : Nat) (es : List (Int × Int)) (x : Int) (w0 w : World) (h0 : IsAdj w0 v n es) (hb : Below w0.heap.size w0 w) : Calls Try.prog 73 #[v, .int .i64 x] w (LeavPost n es x w0 w) := by
  have HV := Nu.hid (hasVertex_any v n es x w (h0.later hb))
  by_cases hx : 0 ≤ x ∧ x < (n : Int)
  · rw [decide_eq_true hx] at HV
    rcases h0 with ⟨rfl, rfl, rfl⟩ | ⟨B, p, rfl, hv, gd, gs, gh, gp, gt, h0⟩
    · omega
    · obtain ⟨u, rfl⟩ : ∃ u : Nat, x = (u : Int) := ⟨x.toNat, by omega⟩
      obtain ⟨x0, x1⟩ := hx
      have hul : u < n := by omega
      have h := h0.same hb.size fun k _ h2 => hb.block k h2
      have c0 := h.blk.c0
      have c1 := h.blk.c1
      have c2 := h.blk.c2
      have d0 := h.deg u hul
      have d1 := h.start u hul
      have hlt : ∀ i, i < 2 * es.length → Cs.fr es i < n := fun i hi => (Cs.half_lt hv hi).1
      have hle := Cs.st_le hlt hul
      have hfew := hv.few
      have hhalf := h0.half
      have hcell : ∀ (j : Nat) (z : Int), (Cs.outZ n es u)[j]? = some z → w0.cell? ⟨gh, Cs.st es (2 * es.length) u + j, none⟩ = some (.int .i64 z) := fun j z hj => by
        unfold Cs.outZ at hj
        rw [List.getElem?_map, Cs.outI_in hul] at hj
        obtain ⟨i, hi, rfl⟩ := Option.map_eq_some_iff.1 hj
        obtain ⟨h1, h2, h3⟩ := Cs.out_of hi
        have := hhalf i h1
        unfold Cs.pos at this
        rw [h2, h3] at this
        exact this
      have hll : (Cs.outZ n es u).length = (Cs.out es u (2 * es.length)).length := by rw [Cs.outZ_len, Cs.outI_in hul]
      have HC := Nu.hid hcell
      have HLL := Nu.hid hll
      obtain ⟨s, hs⟩ : ∃ s, Cs.st es (2 * es.length) u = s := ⟨_, rfl⟩
      obtain ⟨d, hd⟩ : ∃ d, (Cs.out es u (2 * es.length)).length = d := ⟨_, rfl⟩
      rw [hs] at d1 hle HC
      rw [hd] at d0 hle HLL
      have s0 : (0 : Int) ≤ (s : Int) := by omega
      have s1 : (s : Int) ≤ 2 * (es.length : Int) := by omega
      have s2 : (0 : Int) ≤ (d : Int) := by omega
      have s3 : (d : Int) ≤ 2 * (es.length : Int) - (s : Int) := by omega
      clear h h0 hb hv hlt hhalf hcell hll hs hd
      go_enter Try.func73, Try.ntmps73
      go_wp2_with (go_at_call 76; refine HV.out.mono ?_; rintro e w1 ⟨rfl, rfl⟩)
      go_quiet (fail)
      obtain ⟨A, hA⟩ : ∃ A : Option Addr, (if 2 * es.length = s then some ⟨gh, 0, none⟩ else some ⟨gh, s, none⟩) = A := ⟨_, rfl⟩
      rw [hA]
      have HA := Nu.hid hA
      clear hA
      go_wp2
      go_ret
      refine ⟨A, _, by rw [HLL.out]; rfl, fun j z hj => ?_, nq, rfl⟩
      have hjl := (List.getElem?_eq_some_iff.1 hj).1
      rw [HLL.out] at hjl
      have := HA.out
      rw [if_neg (by omega)] at this
      exact ⟨gh, s, this.symm, HC.out j z hj⟩
  · rw [decide_eq_false hx] at HV
    have ho : Cs.outZ n es x = [] := by unfold Cs.outZ; rw [Cs.outI_no hx]; rfl
    have HO := Nu.hid ho
    clear h0 hb hx ho
    go_enter Try.func73, Try.ntmps73
    go_wp2_with (go_at_call 76; refine HV.out.mono ?_; rintro e w1 ⟨rfl, rfl⟩)
    go_ret
    refine ⟨none, 0, by rw [HO.out]; rfl, by rw [HO.out]; exact IntsAt.nil _ _, 0, rfl⟩

end Go.Proofs.Ytponmjipbcmlhaa
