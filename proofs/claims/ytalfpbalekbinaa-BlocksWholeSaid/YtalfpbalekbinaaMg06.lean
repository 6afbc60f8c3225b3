import Derived.Test.YtalfpbalekbinaaMg05
import Derived.Test.YtalfpbalekbinaaMg00
import Derived.BigQuiet
import Derived.Deep.QuietTactic
import Derived.Test.YtalfpbalekbinaaMg01
/-
  What an Adj answers: N, M, Degree, From, To, First, After; also the nil one.
-/
namespace Go.Proofs.Ytalfpbalekbinaa
open Go.RowKit

/-- v is an Adj of n vertices and the edges es: nil for none. -/
def IsAdj (w : World) (v : Value) (n : Nat) (es : List (Int × Int)) : Prop := (v = .pointer none ∧ n = 0 ∧ es = []) ∨ ∃ B p, v = .pointer (some ⟨p, 0, none⟩) ∧ Si.Val n es ∧ AdjAt w B p n es

theorem IsAdj.later {w w' : World} {v : Value} {n : Nat} {es : List (Int × Int)} (h : IsAdj w v n es) (hb : Below w.heap.size w w') : IsAdj w' v n es := by
  rcases h with h | ⟨B, p, h1, h2, h3⟩
  · exact .inl h
  · exact .inr ⟨B, p, h1, h2, h3.later hb⟩

theorem IsAdj.bounds {w : World} {v : Value} {n : Nat} {es : List (Int × Int)} (h : IsAdj w v n es) : n ≤ 1048576 ∧ es.length ≤ 4194304 := by
  rcases h with ⟨_, rfl, rfl⟩ | ⟨B, p, _, h2, _⟩
  · simp
  · have := h2.hi
    have := h2.few
    omega

set_option maxRecDepth 100000 in
set_option maxHeartbeats 1000000 in
theorem aN_any (v : Value) (n : Nat) (es : List (Int × Int)) (w : World) (h : IsAdj w v n es) : Calls Try.prog 52 #[v] w fun e w' => e = .returned (.int .i64 (n : Int)) ∧ w' = w := by
  rcases h with ⟨rfl, rfl, rfl⟩ | ⟨B, p, rfl, hv, gd, gs, gh, gp, gt, h⟩
  · go_enter Try.func52, Try.ntmps52
    go_wp2
    go_ret
    exact ⟨rfl, rfl⟩
  · have c0 := h.blk.c0
    clear h
    go_enter Try.func52, Try.ntmps52
    go_wp2
    go_ret
    exact ⟨rfl, rfl⟩

set_option maxRecDepth 100000 in
set_option maxHeartbeats 1000000 in
theorem aM_any (v : Value) (n : Nat) (es : List (Int × Int)) (w : World) (h : IsAdj w v n es) : Calls Try.prog 73 #[v] w fun e w' => e = .returned (.int .i64 (es.length : Int)) ∧ w' = w := by
  have hb := h.bounds
  rcases h with ⟨rfl, rfl, rfl⟩ | ⟨B, p, rfl, hv, gd, gs, gh, gp, gt, h⟩
  · go_enter Try.func73, Try.ntmps73
    go_wp2
    go_ret
    exact ⟨rfl, rfl⟩
  · have c4 := h.blk.c4
    have hdv : (2 * (es.length : Int)).tdiv 2 = es.length := by rw [Int.tdiv_eq_ediv_of_nonneg (by omega)]; omega
    clear h
    go_enter Try.func73, Try.ntmps73
    go_wp2
    go_ret
    exact ⟨rfl, rfl⟩

set_option maxRecDepth 100000 in
set_option maxHeartbeats 1000000 in
theorem hasVertex_any (v : Value) (n : Nat) (es : List (Int × Int)) (x : Int) (w : World) (h : IsAdj w v n es) : Calls Try.prog 114 #[v, .int .i64 x] w fun e w' => e = .returned (.bool (decide (0 ≤ x ∧ x < (n : Int)))) ∧ w' = w := by
  have HN := Nu.hid (aN_any v n es w h)
  clear h
  by_cases h0 : 0 ≤ x
  · have hd : decide (0 ≤ x ∧ x < (n : Int)) = decide (x < (n : Int)) := by simp [h0]
    rw [hd]
    go_enter Try.func114, Try.ntmps114
    go_wp2_with (go_at_call 52; refine HN.out.mono ?_; rintro e w1 ⟨rfl, rfl⟩)
    go_ret
    exact ⟨rfl, rfl⟩
  · have hd : decide (0 ≤ x ∧ x < (n : Int)) = false := by simp [h0]
    rw [hd]
    go_enter Try.func114, Try.ntmps114
    go_wp2_with (go_at_call 52; refine HN.out.mono ?_; rintro e w1 ⟨rfl, rfl⟩)
    go_ret
    exact ⟨rfl, rfl⟩

set_option maxRecDepth 100000 in
set_option maxHeartbeats 1000000 in
theorem hasHalf_any (v : Value) (n : Nat) (es : List (Int × Int)) (x : Int) (w : World) (h : IsAdj w v n es) : Calls Try.prog 78 #[v, .int .i64 x] w fun e w' => e = .returned (.bool (decide (0 ≤ x ∧ x < 2 * (es.length : Int)))) ∧ w' = w := by
  have HN := Nu.hid (aM_any v n es w h)
  have hb := h.bounds
  clear h
  by_cases h0 : 0 ≤ x
  · have hd : decide (0 ≤ x ∧ x < 2 * (es.length : Int)) = decide (x < 2 * (es.length : Int)) := by simp [h0]
    rw [hd]
    go_enter Try.func78, Try.ntmps78
    go_wp2_with (go_at_call 73; refine HN.out.mono ?_; rintro e w1 ⟨rfl, rfl⟩)
    go_ret
    exact ⟨rfl, rfl⟩
  · have hd : decide (0 ≤ x ∧ x < 2 * (es.length : Int)) = false := by simp [h0]
    rw [hd]
    go_enter Try.func78, Try.ntmps78
    go_wp2_with (go_at_call 73; refine HN.out.mono ?_; rintro e w1 ⟨rfl, rfl⟩)
    go_ret
    exact ⟨rfl, rfl⟩

/-- What leaves a number, as ints. -/
def Cs.outZ (n : Nat) (es : List (Int × Int)) (x : Int) : List Int := (Cs.outI n es x).map fun i : Nat => (i : Int)

theorem Cs.outZ_len {n : Nat} {es : List (Int × Int)} {x : Int} : (Cs.outZ n es x).length = (Cs.outI n es x).length := by simp [Cs.outZ]

/-- What From answers. -/
def Cs.frI (es : List (Int × Int)) (x : Int) : Int := if 0 ≤ x ∧ x < 2 * (es.length : Int) then (Cs.fr es x.toNat : Int) else -1
/-- What To answers. -/
def Cs.toI (es : List (Int × Int)) (x : Int) : Int := if 0 ≤ x ∧ x < 2 * (es.length : Int) then (Cs.to es x.toNat : Int) else -1

theorem Cs.frI_in {es : List (Int × Int)} {i : Nat} (h : i < 2 * es.length) : Cs.frI es i = (Cs.fr es i : Int) := by
  unfold Cs.frI
  rw [if_pos (by omega)]
  simp
theorem Cs.toI_in {es : List (Int × Int)} {i : Nat} (h : i < 2 * es.length) : Cs.toI es i = (Cs.to es i : Int) := by
  unfold Cs.toI
  rw [if_pos (by omega)]
  simp
theorem Cs.frI_no {es : List (Int × Int)} {x : Int} (h : ¬ (0 ≤ x ∧ x < 2 * (es.length : Int))) : Cs.frI es x = -1 := by unfold Cs.frI; rw [if_neg h]
theorem Cs.toI_no {es : List (Int × Int)} {x : Int} (h : ¬ (0 ≤ x ∧ x < 2 * (es.length : Int))) : Cs.toI es x = -1 := by unfold Cs.toI; rw [if_neg h]

set_option maxRecDepth 100000 in
set_option maxHeartbeats 1000000 in
theorem to_any (v : Value) (n : Nat) (es : List (Int × Int)) (x : Int) (w : World) (h : IsAdj w v n es) : Calls Try.prog 58 #[v, .int .i64 x] w fun e w' => e = .returned (.int .i64 (Cs.toI es x)) ∧ w' = w := by
  have HV := Nu.hid (hasHalf_any v n es x w h)
  by_cases hx : 0 ≤ x ∧ x < 2 * (es.length : Int)
  · rw [decide_eq_true hx] at HV
    rcases h with ⟨rfl, rfl, rfl⟩ | ⟨B, p, rfl, hv, gd, gs, gh, gp, gt, h⟩
    · simp at hx; omega
    · obtain ⟨u, rfl⟩ : ∃ u : Nat, x = (u : Int) := ⟨x.toNat, by omega⟩
      obtain ⟨x0, x1⟩ := hx
      have c0 := h.blk.c4
      have d0 := h.goes u (by omega)
      rw [Cs.toI_in (by omega)]
      clear h hv
      go_enter Try.func58, Try.ntmps58
      go_wp2_with (go_at_call 78; refine HV.out.mono ?_; rintro e w1 ⟨rfl, rfl⟩)
      go_ret
      exact ⟨rfl, rfl⟩
  · rw [decide_eq_false hx] at HV
    rw [Cs.toI_no hx]
    clear h hx
    go_enter Try.func58, Try.ntmps58
    go_wp2_with (go_at_call 78; refine HV.out.mono ?_; rintro e w1 ⟨rfl, rfl⟩)
    go_ret
    exact ⟨rfl, rfl⟩

theorem Cs.nat_xor_one (u : Nat) : u ^^^ 1 = Cs.twin u := by
  have h1 : (u ^^^ 1) / 2 = u / 2 := by rw [Nat.xor_div_two]; simp
  have h2 : (u ^^^ 1) % 2 = (u + 1) % 2 := by
    have := Nat.xor_mod_two_pow (a := u) (b := 1) (n := 1)
    simp at this
    rw [this]
    rcases Nat.mod_two_eq_zero_or_one u with h | h <;> rw [h] <;> simp <;> omega
  unfold Cs.twin
  split <;> omega

theorem Cs.xor_twin (u : Nat) (hu : u < 4611686018427387904) : bits .xor .i64 (u : Int) 1 = (Cs.twin u : Int) := by
  have h1 : (BitVec.ofInt 64 (u : Int)).toNat = u := by
    rw [BitVec.ofInt_natCast, BitVec.toNat_ofNat]; exact Nat.mod_eq_of_lt (by omega)
  have h2 : (BitVec.ofInt 64 (1 : Int)).toNat = 1 := by decide
  show IntKind.i64.wrap ((BitVec.ofInt 64 (u : Int) ^^^ BitVec.ofInt 64 (1 : Int)).toNat : Int) = _
  have h3 := Cs.nat_xor_one u
  have h4 : Cs.twin u ≤ u + 1 := by unfold Cs.twin; split <;> omega
  rw [BitVec.toNat_xor, h1, h2, IntKind.wrap_i64, h3]
  omega

set_option maxRecDepth 100000 in
set_option maxHeartbeats 1000000 in
theorem from_any (v : Value) (n : Nat) (es : List (Int × Int)) (x : Int) (w : World) (h : IsAdj w v n es) : Calls Try.prog 57 #[v, .int .i64 x] w fun e w' => e = .returned (.int .i64 (Cs.frI es x)) ∧ w' = w := by
  have HV := Nu.hid (hasHalf_any v n es x w h)
  by_cases hx : 0 ≤ x ∧ x < 2 * (es.length : Int)
  · rw [decide_eq_true hx] at HV
    rcases h with ⟨rfl, rfl, rfl⟩ | ⟨B, p, rfl, hv, gd, gs, gh, gp, gt, h⟩
    · simp at hx; omega
    · obtain ⟨u, rfl⟩ : ∃ u : Nat, x = (u : Int) := ⟨x.toNat, by omega⟩
      obtain ⟨x0, x1⟩ := hx
      have ht := Cs.twin_lt (i := u) (m := es.length) (by omega)
      have c0 := h.blk.c4
      have hfew := hv.few
      have hxt := Cs.xor_twin u (by omega)
      have ht0 : (0 : Int) ≤ (Cs.twin u : Int) := by omega
      have ht1 : (Cs.twin u : Int) < 2 * (es.length : Int) := by omega
      have d0 := h.goes (Cs.twin u) ht
      rw [Cs.frI_in (by omega)]
      rw [Cs.to_twin] at d0
      clear h hv
      go_enter Try.func57, Try.ntmps57
      go_wp2_with (go_at_call 78; refine HV.out.mono ?_; rintro e w1 ⟨rfl, rfl⟩)
      go_ret
      exact ⟨rfl, rfl⟩
  · rw [decide_eq_false hx] at HV
    rw [Cs.frI_no hx]
    clear h hx
    go_enter Try.func57, Try.ntmps57
    go_wp2_with (go_at_call 78; refine HV.out.mono ?_; rintro e w1 ⟨rfl, rfl⟩)
    go_ret
    exact ⟨rfl, rfl⟩

/-- w0: an earlier world, in which the Adj lay already. -/
def LeavPost (n : Nat) (es : List (Int × Int)) (x : Int) (w0 w : World) (e : Ending) (w' : World) : Prop :=
  ∃ ao cap, e = .returned (.slice ao (Cs.outZ n es x).length cap) ∧ IntsAt w0 ao (Cs.outZ n es x) ∧ ∃ k, w' = w.drewN k

set_option maxRecDepth 100000 in
set_option maxHeartbeats 4000000 in
theorem leaving_any (v : Value) (n : Nat) (es : List (Int × Int)) (x : Int) (w0 w : World) (h0 : IsAdj w0 v n es) (hb : Below w0.heap.size w0 w) : Calls Try.prog 97 #[v, .int .i64 x] w (LeavPost n es x w0 w) := by
  have HV := Nu.hid (hasVertex_any v n es x w (h0.later hb))
  by_cases hx : 0 ≤ x ∧ x < (n : Int)
  · rw [decide_eq_true hx] at HV
    rcases h0 with ⟨rfl, rfl, rfl⟩ | ⟨B, p, rfl, hv, gd, gs, gh, gp, gt, h0⟩
    · omega
    · obtain ⟨u, rfl⟩ : ∃ u : Nat, x = (u : Int) := ⟨x.toNat, by omega⟩
      obtain ⟨x0, x1⟩ := hx
      have hul : u < n := by omega
      have h := h0.same hb.size fun k _ h2 => hb.block k h2
      have c0 := h.blk.c0
      have c1 := h.blk.c1
      have c2 := h.blk.c2
      have d0 := h.deg u hul
      have d1 := h.start u hul
      have hlt : ∀ i, i < 2 * es.length → Cs.fr es i < n := fun i hi => (Cs.half_lt hv hi).1
      have hle := Cs.st_le hlt hul
      have hfew := hv.few
      have hhalf := h0.half
      have hcell : ∀ (j : Nat) (z : Int), (Cs.outZ n es u)[j]? = some z → w0.cell? ⟨gh, Cs.st es (2 * es.length) u + j, none⟩ = some (.int .i64 z) := fun j z hj => by
        unfold Cs.outZ at hj
        rw [List.getElem?_map, Cs.outI_in hul] at hj
        obtain ⟨i, hi, rfl⟩ := Option.map_eq_some_iff.1 hj
        obtain ⟨h1, h2, h3⟩ := Cs.out_of hi
        have := hhalf i h1
        unfold Cs.pos at this
        rw [h2, h3] at this
        exact this
      have hll : (Cs.outZ n es u).length = (Cs.out es u (2 * es.length)).length := by rw [Cs.outZ_len, Cs.outI_in hul]
      have HC := Nu.hid hcell
      have HLL := Nu.hid hll
      obtain ⟨s, hs⟩ : ∃ s, Cs.st es (2 * es.length) u = s := ⟨_, rfl⟩
      obtain ⟨d, hd⟩ : ∃ d, (Cs.out es u (2 * es.length)).length = d := ⟨_, rfl⟩
      rw [hs] at d1 hle HC
      rw [hd] at d0 hle HLL
      have s0 : (0 : Int) ≤ (s : Int) := by omega
      have s1 : (s : Int) ≤ 2 * (es.length : Int) := by omega
      have s2 : (0 : Int) ≤ (d : Int) := by omega
      have s3 : (d : Int) ≤ 2 * (es.length : Int) - (s : Int) := by omega
      clear h h0 hb hv hlt hhalf hcell hll hs hd
      go_enter Try.func97, Try.ntmps97
      go_wp2_with (go_at_call 114; refine HV.out.mono ?_; rintro e w1 ⟨rfl, rfl⟩)
      go_quiet (fail)
      obtain ⟨A, hA⟩ : ∃ A : Option Addr, (if 2 * es.length = s then some ⟨gh, 0, none⟩ else some ⟨gh, s, none⟩) = A := ⟨_, rfl⟩
      rw [hA]
      have HA := Nu.hid hA
      clear hA
      go_wp2
      go_ret
      refine ⟨A, _, by rw [HLL.out]; rfl, fun j z hj => ?_, nq, rfl⟩
      have hjl := (List.getElem?_eq_some_iff.1 hj).1
      rw [HLL.out] at hjl
      have := HA.out
      rw [if_neg (by omega)] at this
      exact ⟨gh, s, this.symm, HC.out j z hj⟩
  · rw [decide_eq_false hx] at HV
    have ho : Cs.outZ n es x = [] := by unfold Cs.outZ; rw [Cs.outI_no hx]; rfl
    have HO := Nu.hid ho
    clear h0 hb hx ho
    go_enter Try.func97, Try.ntmps97
    go_wp2_with (go_at_call 114; refine HV.out.mono ?_; rintro e w1 ⟨rfl, rfl⟩)
    go_ret
    refine ⟨none, 0, by rw [HO.out]; rfl, by rw [HO.out]; exact IntsAt.nil _ _, 0, rfl⟩

end Go.Proofs.Ytalfpbalekbinaa

/-
  Depth-first forests, pure: what is asked of one; ways from a vertex up to its root; who is above whom.
-/
namespace Go.Proofs.Ytalfpbalekbinaa
namespace Df

/-- A number of a list, by place. -/
abbrev at_ (l : List Int) (i : Nat) : Int := l.getD i (-1)

/-- The parent of a vertex; -1 of a root. -/
def up (es : List (Int × Int)) (s : St) (v : Int) : Int := Cs.frI es (at_ s.par v.toNat)

/-- The lists are as long as they should be. -/
def Lens (n : Nat) (es : List (Int × Int)) (s : St) : Prop := s.par.length = n ∧ s.hei.length = n ∧ s.ord.length = n ∧ s.ori.length = es.length

/-- Each vertex once. -/
def Once (n : Nat) (s : St) (k : Nat) : Prop := ∀ i, i < k → (0 ≤ at_ s.ord i ∧ at_ s.ord i < (n : Int)) ∧ ∀ j, j < i → at_ s.ord j ≠ at_ s.ord i

/-- A vertex has a parent and a height as it should. -/
def Hang1 (es : List (Int × Int)) (s : St) (v : Nat) : Prop :=
  (at_ s.par v = -1 ∧ at_ s.hei v = 0) ∨ ∃ h : Nat, h < 2 * es.length ∧ at_ s.par v = (h : Int) ∧ Cs.to es h = v ∧ at_ s.ori (h / 2) = (h : Int) ∧ at_ s.hei v = IntKind.i64.wrap (at_ s.hei (Cs.fr es h) + 1)
def Hang (n : Nat) (es : List (Int × Int)) (s : St) : Prop := ∀ v, v < n → Hang1 es s v

/-- What is taken from the way, up to p; those that are taken end at i. -/
def leave (p i : Int) : List Int → List Int → List Int × List Int
  | [], B => ([], B)
  | x :: W, B => if x = p then (x :: W, B) else leave p i W (B.set x.toNat i)

/-- The way and where the vertices end, when k have been come by; none: a parent isn't on the way. -/
def side (n : Nat) (es : List (Int × Int)) (s : St) : Nat → Option (List Int × List Int)
  | 0 => some ([], List.replicate n 0)
  | k + 1 => (side n es s k).bind fun q =>
    if up es s (at_ s.ord k) ≠ -1 ∧ (leave (up es s (at_ s.ord k)) k q.1 q.2).1 = [] then none
    else some (at_ s.ord k :: (leave (up es s (at_ s.ord k)) k q.1 q.2).1, (leave (up es s (at_ s.ord k)) k q.1 q.2).2)

/-- A way from its first vertex up to a root. -/
def IsWay (es : List (Int × Int)) (s : St) : List Int → Prop
  | [] => True
  | v :: W => 0 ≤ v ∧ up es s v = W.headD (-1) ∧ IsWay es s W

/-- u is above v. -/
def Anc (es : List (Int × Int)) (s : St) (u v : Int) : Prop := ∃ W, IsWay es s (v :: W) ∧ u ∈ v :: W

theorem IsWay.unique {es : List (Int × Int)} {s : St} : ∀ {W W' : List Int}, IsWay es s W → IsWay es s W' → W.headD (-1) = W'.headD (-1) → W = W'
  | [], [], _, _, _ => rfl
  | [], v :: W', _, h, e => by
    have := h.1
    simp at e
    omega
  | v :: W, [], h, _, e => by
    have := h.1
    simp at e
    omega
  | v :: W, v' :: W', h, h', e => by
    have e1 : v = v' := by simpa using e
    subst e1
    rw [IsWay.unique h.2.2 h'.2.2 (h.2.1.symm.trans h'.2.1)]

theorem Anc.iff {es : List (Int × Int)} {s : St} {u v : Int} {W : List Int} (h : IsWay es s (v :: W)) : Anc es s u v ↔ u ∈ v :: W := by
  constructor
  · rintro ⟨W', h', hu⟩
    have := IsWay.unique h h' rfl
    injection this with _ e
    rw [e]
    exact hu
  · exact fun hu => ⟨W, h, hu⟩

/-- What leave leaves is the way from p on. -/
theorem leave_way {p i : Int} : ∀ (W B : List Int), ∃ X, W = X ++ (leave p i W B).1 ∧ p ∉ X ∧ ((leave p i W B).1 = [] ∨ (leave p i W B).1.headD (-1) = p)
  | [], B => ⟨[], rfl, by simp, .inl rfl⟩
  | x :: W, B => by
    unfold leave
    by_cases h : x = p
    · rw [if_pos h]
      exact ⟨[], rfl, by simp, .inr (by simpa using h)⟩
    · rw [if_neg h]
      obtain ⟨X, h1, h2, h3⟩ := leave_way (p := p) (i := i) W (B.set x.toNat i)
      refine ⟨x :: X, by rw [List.cons_append, ← h1], ?_, h3⟩
      simp only [List.mem_cons, not_or]
      exact ⟨fun e => h e.symm, h2⟩

theorem leave_len {p i : Int} : ∀ (W B : List Int), (leave p i W B).2.length = B.length
  | [], B => rfl
  | x :: W, B => by
    unfold leave
    split
    · rfl
    · rw [leave_len W (B.set x.toNat i), List.length_set]

/-- Where a vertex ends that stays, or isn't on the way. -/
theorem leave_other {p i : Int} {u : Nat} : ∀ (W B : List Int), (∀ x ∈ W, 0 ≤ x) → ((u : Int) ∉ W ∨ (u : Int) ∈ (leave p i W B).1 ∧ W.Nodup) → at_ (leave p i W B).2 u = at_ B u
  | [], B, _, _ => rfl
  | x :: W, B, h0, hu => by
    have e1 : leave p i (x :: W) B = if x = p then (x :: W, B) else leave p i W (B.set x.toNat i) := by
      conv => lhs; unfold leave
    rw [e1] at hu ⊢
    by_cases hx : x = p
    · rw [if_pos hx]
    · rw [if_neg hx] at hu ⊢
      have hx0 := h0 x List.mem_cons_self
      have hne : x.toNat ≠ u := by
        rcases hu with hu | ⟨hu, hd⟩
        · intro e
          exact hu (by rw [← e]; simp [Int.toNat_of_nonneg hx0])
        · intro e
          obtain ⟨X, h1, _, _⟩ := leave_way (p := p) (i := i) W (B.set x.toNat i)
          have : (u : Int) ∈ W := by rw [h1]; exact List.mem_append_right _ hu
          rw [← e, Int.toNat_of_nonneg hx0] at this
          exact (List.nodup_cons.1 hd).1 this
      rw [leave_other W (B.set x.toNat i) (fun y hy => h0 y (List.mem_cons_of_mem _ hy)) (by
        rcases hu with hu | ⟨hu, hd⟩
        · exact .inl fun h => hu (List.mem_cons_of_mem _ h)
        · exact .inr ⟨hu, (List.nodup_cons.1 hd).2⟩)]
      unfold at_
      rw [List.getD_eq_getElem?_getD, List.getElem?_set, if_neg hne, ← List.getD_eq_getElem?_getD]

/-- Where a vertex ends that is taken. -/
theorem leave_taken {p i : Int} {u : Nat} : ∀ (W B : List Int), (∀ x ∈ W, 0 ≤ x) → W.Nodup → (u : Int) ∈ W → (u : Int) ∉ (leave p i W B).1 → u < B.length → at_ (leave p i W B).2 u = i
  | [], B, _, _, hu, _, _ => by simp at hu
  | x :: W, B, h0, hd, hu, hn, hl => by
    have e1 : leave p i (x :: W) B = if x = p then (x :: W, B) else leave p i W (B.set x.toNat i) := by
      conv => lhs; unfold leave
    rw [e1] at hn ⊢
    by_cases hx : x = p
    · rw [if_pos hx] at hn
      exact absurd hu hn
    · rw [if_neg hx] at hn ⊢
      have h0' := fun y hy => h0 y (List.mem_cons_of_mem _ hy)
      by_cases e : (u : Int) = x
      · have hnW : (u : Int) ∉ W := by rw [e]; exact (List.nodup_cons.1 hd).1
        rw [leave_other W (B.set x.toNat i) h0' (.inl hnW)]
        have : x.toNat = u := by omega
        unfold at_
        rw [this, List.getD_eq_getElem?_getD, List.getElem?_set, if_pos rfl, if_pos hl]
        rfl
      · exact leave_taken W (B.set x.toNat i) h0' (List.nodup_cons.1 hd).2 ((List.mem_cons.1 hu).resolve_left e) hn (by rw [List.length_set]; exact hl)

end Df
end Go.Proofs.Ytalfpbalekbinaa

/-
  Ways, vertex by vertex: where a vertex is on the way, and till when.
-/
namespace Go.Proofs.Ytalfpbalekbinaa
namespace Df

theorem IsWay.tail {es : List (Int × Int)} {s : St} : ∀ {X Y : List Int}, IsWay es s (X ++ Y) → IsWay es s Y
  | [], _, h => h
  | _ :: _, _, h => IsWay.tail h.2.2

theorem IsWay.pos {es : List (Int × Int)} {s : St} : ∀ {W : List Int}, IsWay es s W → ∀ x ∈ W, 0 ≤ x
  | [], _, x, hx => by simp at hx
  | v :: W, h, x, hx => by
    rcases List.mem_cons.1 hx with rfl | hx
    · exact h.1
    · exact IsWay.pos h.2.2 x hx

/-- The way behind vertex number j. -/
def wayAt (n : Nat) (es : List (Int × Int)) (s : St) (j : Nat) : List Int := ((side n es s (j + 1)).getD ([], [])).1

/-- What is so when k vertices have been come by. -/
structure SideInv (n : Nat) (es : List (Int × Int)) (s : St) (k : Nat) (W B : List Int) : Prop where
  way : IsWay es s W
  sub : ∀ u ∈ W, ∃ a, a < k ∧ at_ s.ord a = u
  nod : W.Nodup
  len : W.length ≤ k
  lenB : B.length = n
  ops : ∀ a, a < k → (at_ s.ord a ∈ W ∧ ∀ j, a ≤ j → j < k → at_ s.ord a ∈ wayAt n es s j) ∨
    (at_ s.ord a ∉ W ∧ ∃ c : Nat, a < c ∧ c ≤ k ∧ at_ B (at_ s.ord a).toNat = (c : Int) ∧ (∀ j, a ≤ j → j < c → at_ s.ord a ∈ wayAt n es s j) ∧ ∀ j, c ≤ j → j < k → at_ s.ord a ∉ wayAt n es s j)
  hist : ∀ j, j < k → (∀ u ∈ wayAt n es s j, ∃ a, a ≤ j ∧ at_ s.ord a = u) ∧ (∃ Y, wayAt n es s j = at_ s.ord j :: Y) ∧ IsWay es s (wayAt n es s j) ∧ (wayAt n es s j).length ≤ j + 1 ∧ (wayAt n es s j).Nodup

section
variable {n : Nat} {es : List (Int × Int)} {s : St}

theorem Once.ne (h : Once n s n) {a b : Nat} (ha : a < n) (hb : b < n) (hab : a ≠ b) : at_ s.ord a ≠ at_ s.ord b := by
  rcases Nat.lt_or_ge a b with h1 | h1
  · exact (h b hb).2 a h1
  · exact fun e => (h a ha).2 b (by omega) e.symm

theorem side_inv (ho : Once n s n) : ∀ k, k ≤ n → ∀ W B, side n es s k = some (W, B) → SideInv n es s k W B := by
  intro k
  induction k with
  | zero =>
    intro _ W B h
    simp only [side, Option.some.injEq, Prod.mk.injEq] at h
    obtain ⟨rfl, rfl⟩ := h
    exact ⟨trivial, by simp, by simp, by simp, by simp, fun a ha => by omega, fun j hj => by omega⟩
  | succ k ih =>
    intro hk W B h
    have hs := h
    unfold side at h
    cases hq : side n es s k with
    | none => rw [hq] at h; cases h
    | some q =>
      obtain ⟨W0, B0⟩ := q
      have inv := ih (by omega) W0 B0 hq
      rw [hq, Option.bind_some] at h
      dsimp only at h
      obtain ⟨v, hv⟩ : ∃ v, at_ s.ord k = v := ⟨_, rfl⟩
      obtain ⟨p, hp⟩ : ∃ p, up es s v = p := ⟨_, rfl⟩
      rw [hv, hp] at h
      obtain ⟨X, hX, hpX, hhd⟩ := leave_way (p := p) (i := (k : Int)) W0 B0
      have hlenB := leave_len (p := p) (i := (k : Int)) W0 B0
      obtain ⟨L, hL⟩ : ∃ L, leave p k W0 B0 = L := ⟨_, rfl⟩
      rw [hL] at h hX hhd hlenB
      split at h
      · cases h
      rename_i hc
      simp only [Option.some.injEq, Prod.mk.injEq] at h
      obtain ⟨rfl, rfl⟩ := h
      have hv0 := (ho k (by omega)).1
      rw [hv] at hv0
      have hsubL : ∀ u ∈ L.1, u ∈ W0 := fun u hu => by rw [hX]; exact List.mem_append_right _ hu
      have hne : ∀ a, a < k → at_ s.ord a ≠ v := fun a ha => by rw [← hv]; exact ho.ne (by omega) (by omega) (by omega)
      have hvL : v ∉ W0 := fun hm => by
        obtain ⟨a, ha, e⟩ := inv.sub v hm
        exact hne a ha e
      have hnodL : L.1.Nodup := by
        have := inv.nod
        rw [hX] at this
        exact (List.nodup_append.1 this).2.1
      have hwayk : wayAt n es s k = v :: L.1 := by
        unfold wayAt
        rw [hs]
        rfl
      have hwayL : IsWay es s L.1 := by
        have := inv.way
        rw [hX] at this
        exact this.tail
      have hway : IsWay es s (v :: L.1) := by
        refine ⟨hv0.1, ?_, hwayL⟩
        rw [hp]
        rcases hhd with h1 | h1
        · rw [h1]
          simp only [List.headD_nil]
          by_cases e : p = -1
          · exact e
          · exact absurd ⟨e, h1⟩ hc
        · exact h1.symm
      have hlenL : L.1.length ≤ k := by
        have := inv.len
        rw [hX, List.length_append] at this
        omega
      have hnod : (v :: L.1).Nodup := List.nodup_cons.2 ⟨fun h => hvL (hsubL v h), hnodL⟩
      refine ⟨hway, ?_, hnod, by simp; omega, by rw [hlenB]; exact inv.lenB, ?_, ?_⟩
      · intro u hu
        rcases List.mem_cons.1 hu with rfl | hu
        · exact ⟨k, by omega, hv⟩
        · obtain ⟨a, ha, e⟩ := inv.sub u (hsubL u hu)
          exact ⟨a, by omega, e⟩
      · intro a ha
        by_cases hak : a = k
        · subst hak
          rw [hv]
          refine .inl ⟨List.mem_cons_self, fun j h1 h2 => ?_⟩
          obtain rfl : j = a := by omega
          rw [hwayk]
          exact List.mem_cons_self
        · have hak' : a < k := by omega
          obtain ⟨u, hu⟩ : ∃ u, at_ s.ord a = u := ⟨_, rfl⟩
          have huv := hne a hak'
          have hu0 := (ho a (by omega)).1
          have hops := inv.ops a hak'
          rw [hu] at huv hu0 hops ⊢
          have hun : (u.toNat : Int) = u := Int.toNat_of_nonneg hu0.1
          rcases hops with ⟨h1, h2⟩ | ⟨h1, c, c1, c2, c3, c4, c5⟩
          · by_cases hin : u ∈ L.1
            · refine .inl ⟨List.mem_cons_of_mem _ hin, fun j j1 j2 => ?_⟩
              by_cases e : j = k
              · subst e; rw [hwayk]; exact List.mem_cons_of_mem _ hin
              · exact h2 j j1 (by omega)
            · refine .inr ⟨fun h => (List.mem_cons.1 h).elim huv hin, k, hak', by omega, ?_, h2, fun j j1 j2 => ?_⟩
              · rw [← hL]
                refine leave_taken W0 B0 inv.way.pos inv.nod (by rw [hun]; exact h1) (by rw [hun, hL]; exact hin) (by rw [inv.lenB]; omega)
              · obtain rfl : j = k := by omega
                rw [hwayk]
                exact fun h => (List.mem_cons.1 h).elim huv hin
          · have hin : u ∉ L.1 := fun h => h1 (hsubL u h)
            refine .inr ⟨fun h => (List.mem_cons.1 h).elim huv hin, c, c1, by omega, ?_, c4, fun j j1 j2 => ?_⟩
            · rw [← hL, leave_other W0 B0 inv.way.pos (.inl (by rw [hun]; exact h1))]
              exact c3
            · by_cases e : j = k
              · subst e
                rw [hwayk]
                exact fun h => (List.mem_cons.1 h).elim huv hin
              · exact c5 j j1 (by omega)
      · intro j hj
        by_cases e : j = k
        · subst e
          rw [hwayk]
          refine ⟨fun u hu => ?_, ⟨L.1, by rw [hv]⟩, hway, by simp; omega, hnod⟩
          rcases List.mem_cons.1 hu with rfl | hu
          · exact ⟨j, Nat.le_refl _, hv⟩
          · obtain ⟨a, ha, e⟩ := inv.sub u (hsubL u hu)
            exact ⟨a, by omega, e⟩
        · exact inv.hist j (by omega)

/-- Where the vertices end. -/
def ends (n : Nat) (W B : List Int) : List Int := (leave (-1) n W B).2

theorem leave_none {W B : List Int} {i : Int} (h : ∀ x ∈ W, 0 ≤ x) : (leave (-1) i W B).1 = [] := by
  obtain ⟨X, hX, _, hh⟩ := leave_way (p := -1) (i := i) W B
  rcases hh with hh | hh
  · exact hh
  · cases hY : (leave (-1) i W B).1 with
    | nil => rfl
    | cons y Y =>
      rw [hY] at hh hX
      have := h y (by rw [hX]; simp)
      simp at hh
      omega

/-- The vertices below u stand from its own place to ahead of where it ends. -/
theorem side_end (ho : Once n s n) {W B : List Int} (h : side n es s n = some (W, B)) {a j : Nat} (ha : a < n) (hj : j < n) :
    at_ s.ord a ∈ wayAt n es s j ↔ a ≤ j ∧ (j : Int) < at_ (ends n W B) (at_ s.ord a).toNat := by
  have inv := side_inv ho n (Nat.le_refl _) W B h
  have hu0 := (ho a ha).1
  have hun : ((at_ s.ord a).toNat : Int) = at_ s.ord a := Int.toNat_of_nonneg hu0.1
  have hearly : ¬ a ≤ j → at_ s.ord a ∉ wayAt n es s j := fun hlt hm => by
    obtain ⟨b, hb, e⟩ := (inv.hist j hj).1 _ hm
    exact ho.ne (a := b) (b := a) (by omega) ha (by omega) e
  rcases inv.ops a ha with ⟨h1, h2⟩ | ⟨h1, c, c1, c2, c3, c4, c5⟩
  · have e : at_ (ends n W B) (at_ s.ord a).toNat = (n : Int) := by
      unfold ends
      exact leave_taken W B inv.way.pos inv.nod (by rw [hun]; exact h1) (by rw [leave_none inv.way.pos]; simp) (by rw [inv.lenB]; omega)
    rw [e]
    constructor
    · intro hm
      by_cases hlt : a ≤ j
      · exact ⟨hlt, by omega⟩
      · exact absurd hm (hearly hlt)
    · exact fun h => h2 j h.1 hj
  · have e : at_ (ends n W B) (at_ s.ord a).toNat = (c : Int) := by
      unfold ends
      rw [leave_other W B inv.way.pos (.inl (by rw [hun]; exact h1))]
      exact c3
    rw [e]
    constructor
    · intro hm
      by_cases hlt : a ≤ j
      · refine ⟨hlt, ?_⟩
        rcases Nat.lt_or_ge j c with h | h
        · omega
        · exact absurd hm (c5 j h hj)
      · exact absurd hm (hearly hlt)
    · exact fun h => c4 j h.1 (by omega)
end

end Df
end Go.Proofs.Ytalfpbalekbinaa
