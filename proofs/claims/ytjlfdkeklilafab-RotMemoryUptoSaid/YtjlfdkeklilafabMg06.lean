import Derived.Test.YtjlfdkeklilafabMg04
import Derived.Laws.Append
import Derived.Laws.AppendOwn
import Derived.Laws.AppendOwnNone
import Derived.Test.YtjlfdkeklilafabMg01
import Derived.Test.YtjlfdkeklilafabMg02
import Derived.Test.YtjlfdkeklilafabMg03
import Derived.Lib.SliceRun
/-
  slices.Grow of nothing, slices.Concat of lists.
-/
namespace Go.Proofs.Ytjlfdkeklilafab
open Go.RowKit

/-- A call answers a list of its own, of these ints. -/
def ListPost (l : List Int) (w : World) (e : Ending) (w' : World) : Prop := ∃ v, e = .returned v ∧ OwnZ w' w.heap.size v l ∧ Below w.heap.size w w'

theorem run_append_make (w : World) (ty : TypeId) (n : Nat) (h0 : 0 < n) (hn : n ≤ 17592186044416) :
    (Builtin.append_ #[39, 3] ty #[.slice none 0 0, .int .i64 (n : Int)]).run Try.prog w =
      .ok (.slice (some ⟨w.heap.size, 0, none⟩) n (grownCap w n 0 3)) (w.drew.alloc (.cells (Builtin.zeroCells #[.int .i64 0] n ++ Builtin.zeroCells #[.int .i64 0] (grownCap w n 0 3 - n)) 3)) := by
  obtain ⟨i0, hi, hz0, hz1, hz2⟩ := info_parts Try.infoNum
  have hn0 : n ≠ 0 := by omega
  have hneg : ¬ ((n : Int) < 0) := by omega
  have hw : IntKind.i64.wrap (n : Int) = (n : Int) := by rw [IntKind.wrap_i64]; omega
  have h63' : ¬ (9223372036854775807 < (n : Int)) := by omega
  have h48 : ¬ (281474976710656 < (n : Int) * 8) := by omega
  have h48' : ¬ (281474976710656 < Builtin.nextslicecap n 0 * 8) := by rw [nextslicecap_zero h0]; omega
  simp [Builtin.append_, run_underlying Try.underlying39, run_underlying Try.underlying3, sizeOf, typeInfo, zeroValue, hi, hz0, hz1, hz2, Builtin.lenOf, hn0, hw, hneg, h63', h48, h48', Question.forced, run_firstCells_none, newRow, grownCap, Value.cells, asInt, asIntOf]

/-- 'append(nil, make([]int, n)...)'. -/
theorem wpList_append_make {ops : Array Oper} {rest : List Oper} {o : Oper} {a : Act} {Q : Exit → Act → World → Prop} (hgd : o.guard = none) (s x : Operand)
    (ho : o.op = .call { callee := .builtin .append, args := #[s, x], argTypes := #[39, 3] }) (w : World) (n : Nat) (hs : a.eval s = .slice none 0 0) (hx : a.eval x = .int .i64 (n : Int)) (h0 : 0 < n) (hn : n ≤ 17592186044416)
    (h : ∀ c w', w'.ownsRow w.heap.size 3 1 (.slice (some ⟨w.heap.size, 0, none⟩) 0 c) 0 [] → n ≤ c → Below w.heap.size w w' → wpList Try.prog ops Q rest (a.put o.dst (.slice (some ⟨w.heap.size, 0, none⟩) n c)) w') :
    wpList Try.prog ops Q (o :: rest) a w := by
  have hr := run_append_make w o.type n h0 hn
  have hge := grownCap_ge w n 0 3
  have hle := grownCap_le_maxLen w n 0 3 (by unfold maxLen; omega)
  refine wpList_plain hgd fun K hK => ?_
  unfold Oper.wp
  simp [execOp, ho, resolve, invoke, builtin, hs, hx, hr, Result.andThen]
  refine hK _ _ (h _ _ ?_ hge ?_)
  · refine ⟨rfl, .inr ⟨w.heap.size, _, _, rfl, Nat.le_refl _, heap_alloc_new w.drew _, Nat.zero_le _, hle, ?_, by simp⟩⟩
    simp only [Array.size_append, size_zeroCells]
    simp
    omega
  · exact ((Below.refl _ _).drew).alloc (Nat.le_refl _) _

set_option maxRecDepth 100000 in
set_option maxHeartbeats 4000000 in
theorem sgrow_any (n : Nat) (w : World) (hn : n ≤ 17592186044416) :
    Calls Try.prog 51 #[.slice none 0 0, .int .i64 (n : Int)] w (ListPost [] w) := by
  have hneg : ¬ (n : Int) < 0 := by omega
  by_cases h0 : n = 0
  · subst h0
    go_enter Try.func51, Try.ntmps51
    go_wp2
    go_ret
    exact ⟨_, rfl, OwnZ.nil _ _, Below.refl _ _⟩
  · have h1 : (0 : Int) < (n : Int) := by omega
    have h2 : 0 < n := by omega
    have hws : IntKind.i64.wrap (n : Int) = (n : Int) := by rw [IntKind.wrap_i64]; omega
    go_enter Try.func51, Try.ntmps51
    go_wp2_with (at_builtin; refine wpList_append_make rfl _ _ rfl w n rfl rfl h2 hn ?_; refine Hid.out ?_)
    refine Nu.hid ?_
    intro c w1 ho hc hb
    have HO := Nu.hid ho
    have HB := Nu.hid hb
    clear ho hb
    go_wp2
    go_ret
    exact ⟨_, rfl, HO.out, HB.out⟩

end Go.Proofs.Ytjlfdkeklilafab

/-
  A list of one's own and another one behind it.
-/
namespace Go.Proofs.Ytjlfdkeklilafab
open Go.RowKit

/-- 'append(v, xs...)', v a list of one's own. -/
theorem wpList_extend {ops : Array Oper} {rest : List Oper} {o : Oper} {a : Act} {Q : Exit → Act → World → Prop} (hgd : o.guard = none) (s x : Operand)
    (ho : o.op = .call { callee := .builtin .append, args := #[s, x], argTypes := #[39, 39] }) (W : World) (B : Nat) (v : Value) (l xs : List Int) (hown : OwnZ W B v l) (xo : Option Addr) (xn xc : Nat) (hx0 : Lst W xo xn xc xs)
    (hB : B ≤ W.heap.size) (hl : l.length + xs.length ≤ 17592186044000) (hs : a.eval s = v) (hx : a.eval x = .slice xo xn xc)
    (h : ∀ v' w', OwnZ w' B v' (l ++ xs) → Below B W w' → wpList Try.prog ops Q rest (a.put o.dst v') w') :
    wpList Try.prog ops Q (o :: rest) a W := by
  obtain ⟨i0, hi, hz0, hz1, hz2⟩ := info_parts Try.infoNum
  rcases xo with _ | y
  · obtain ⟨rfl, rfl⟩ := hx0.none rfl
    have e : xs = [] := List.length_eq_zero_iff.1 hx0.len
    subst e
    refine wpList_append_own_none hgd s x 39 ho B 3 i0 1 Try.underlying39 hi v l.length (l.map (Value.int .i64)) hs hown hx ?_
    exact h v W (by rw [List.append_nil]; exact hown) (Below.refl _ _)
  · have hxl := hx0.len
    refine wpList_append_own W hgd s x 39 ho B 3 i0 (.int .i64 0) 1 8 Try.underlying39 hi hz0 hz1 hz2 rfl (by decide) v l.length (l.map (Value.int .i64)) hs hown y xn xc (xs.map (Value.int .i64)) hx (by rw [List.length_map, hx0.len]; omega) ?_ (ints_oneCell .i64 _) (by unfold maxLen; omega) (by omega) hB ?_
    · intro j u hj
      rw [List.getElem?_map] at hj
      cases hlj : xs[j]? with
      | none => rw [hlj] at hj; cases hj
      | some z =>
        rw [hlj] at hj
        obtain rfl := Option.some.inj hj
        obtain ⟨b, o', e, hc⟩ := hx0.ints j z hlj
        cases e
        have ea : ((⟨b, o', none⟩ : Addr).add j) = ⟨b, o' + j, none⟩ := by
          by_cases h0 : j = 0 <;> simp [Addr.add, h0]
        rw [ea]
        exact hc
    · intro v' w' hown' hg _
      refine h v' w' ?_ ((Below.refl B W).grown hg hB (fun b hb => (World.ownsRow.lt hown b hb).1))
      unfold OwnZ
      rw [List.length_append, List.map_append, hxl]
      exact hown'

end Go.Proofs.Ytjlfdkeklilafab

/-
  slices.Concat of lists.
-/
namespace Go.Proofs.Ytjlfdkeklilafab
open Go.RowKit

theorem Ro.flat_take {ls : List (List Int)} {k : Nat} {l : List Int} (h : ls[k]? = some l) : (ls.take (k + 1)).flatten = (ls.take k).flatten ++ l := by
  rw [List.take_add_one, h]
  simp
theorem Ro.flat_le {ls : List (List Int)} {k : Nat} : (ls.take k).flatten.length ≤ ls.flatten.length := by
  have : ls.flatten = (ls.take k).flatten ++ (ls.drop k).flatten := by rw [← List.flatten_append, List.take_append_drop]
  rw [this, List.length_append]
  omega

set_option maxRecDepth 100000 in
set_option maxHeartbeats 8000000 in
theorem concat_any (xo : Option Addr) (xc : Nat) (ls : List (List Int)) (w : World) (hx : RwsAt w xo ls) (hl : ls.length ≤ 4611686018427387904) (hs : ls.flatten.length ≤ 17592186044000) :
    Calls Try.prog 44 #[.slice xo ls.length xc] w (ListPost ls.flatten w) := by
  obtain ⟨i0, hi, hz0, hz1, hz2⟩ := info_parts Try.infoNum
  have HX := Nu.hid hx
  clear hx
  go_enter Try.func44, Try.ntmps44
  go_wp2
  go_loopw [3, 11] (fun c d wr => ∃ k : Nat, k ≤ ls.length ∧ d = .int .i64 (k : Int) ∧ c = .int .i64 ((ls.take k).flatten.length : Int) ∧ wr = w) (fun _ d _ => ls.length - (intOf d).toNat)
  case atStart => exact ⟨0, Nat.zero_le _, rfl, rfl, rfl⟩
  case round =>
    obtain ⟨k, hk, rfl, rfl, hw⟩ := hrel
    obtain rfl := hw.symm
    clear hw
    by_cases hlt : k < ls.length
    · have hlti : (k : Int) < (ls.length : Int) := by omega
      have hk0 : (0 : Int) ≤ (k : Int) := by omega
      obtain ⟨l, hlk⟩ : ∃ l, ls[k]? = some l := ⟨_, List.getElem?_eq_getElem hlt⟩
      obtain ⟨b, o, A, C, rfl, hc, hL, hln, -⟩ := HX.out k l hlk
      have hfl := Ro.flat_le (ls := ls) (k := k + 1)
      have hft := congrArg List.length (Ro.flat_take hlk)
      rw [List.length_append] at hft
      obtain ⟨q, hq⟩ : ∃ q, q = (ls.take k).flatten.length := ⟨_, rfl⟩
      rw [← hq] at hft ⊢
      have hnn : ¬ ((q : Int) + (l.length : Int) < 0) := by omega
      have hqw : IntKind.i64.wrap ((q : Int) + (l.length : Int)) = (q : Int) + (l.length : Int) := by rw [IntKind.wrap_i64]; omega
      have HFT := Nu.hid hft
      clear hft hfl hq hlk hL
      go_wp2
      go_roundw
      case rel => exact ⟨k + 1, by omega, by go_num, by rw [HFT.out]; simp, by first | rfl | trivial⟩
      case measure => simp [intOf]; omega
    · have hlti : ¬ (k : Int) < (ls.length : Int) := by omega
      obtain rfl : k = ls.length := by omega
      rw [List.take_length]
      obtain ⟨N, hN⟩ : ∃ N, N = ls.flatten.length := ⟨_, rfl⟩
      rw [← hN] at hs ⊢
      have HN := Nu.hid hN
      have HG := Nu.hid (sgrow_any N w (by omega))
      clear hN
      go_wp2_with (go_at_call 51; refine HG.out.mono ?_; refine Hid.out ?_)
      refine Nu.hid ?_
      rintro e w1 ⟨v, rfl, ho, hb⟩
      have HO := Nu.hid ho
      have HB := Nu.hid hb
      clear ho hb
      go_wp2
      go_loopw [6, 27] (fun c d wr => ∃ k : Nat, k ≤ ls.length ∧ d = .int .i64 (k : Int) ∧ OwnZ wr w.heap.size c (ls.take k).flatten ∧ Below w.heap.size w wr) (fun _ d _ => ls.length - (intOf d).toNat)
      case atStart => exact ⟨0, Nat.zero_le _, rfl, HO.out, HB.out⟩
      case round =>
        clear HO HB
        obtain ⟨k, hk, rfl, ho, hb⟩ := hrel
        have HB := Nu.hid hb
        have HO := Nu.hid ho
        by_cases hlt : k < ls.length
        · have hlti : (k : Int) < (ls.length : Int) := by omega
          have hk0 : (0 : Int) ≤ (k : Int) := by omega
          obtain ⟨l, hlk⟩ : ∃ l, ls[k]? = some l := ⟨_, List.getElem?_eq_getElem hlt⟩
          obtain ⟨b, o, A, C, rfl, hc, hL, hln, -⟩ := (HX.out.later hb) k l hlk
          have hfl := Ro.flat_le (ls := ls) (k := k + 1)
          rw [Ro.flat_take hlk, List.length_append, ← HN.out] at hfl
          have HFL := Nu.hid hfl
          have HLK := Nu.hid hlk
          have HL := Nu.hid hL
          have hbs := hb.size
          obtain ⟨p1, hp1⟩ : ∃ p1, l.length = p1 := ⟨_, rfl⟩
          rw [hp1] at hc
          clear hfl hlk hL hb ho
          have HP := Nu.hid hp1
          clear hp1
          go_wp2_with (at_builtin; refine wpList_extend rfl _ _ rfl wr w.heap.size _ _ l HO.out A p1 C (by have := HL.out; rw [HP.out] at this; exact this) hbs (by have := HFL.out; omega) rfl rfl ?_; refine Hid.out ?_)
          refine Nu.hid ?_
          intro v' w' ho' hb'
          have HO' := Nu.hid (show OwnZ w' w.heap.size v' (ls.take (k + 1)).flatten by rw [Ro.flat_take HLK.out]; exact ho')
          have HB' := Nu.hid (HB.out.trans hb')
          clear ho' hb'
          go_wp2
          go_roundw
          case rel => exact ⟨k + 1, by omega, by go_num, HO'.out, HB'.out⟩
          case measure => simp [intOf]; omega
        · have hlti : ¬ (k : Int) < (ls.length : Int) := by omega
          obtain rfl : k = ls.length := by omega
          clear ho hb
          go_wp2
          go_ret
          have h1 := HO.out
          rw [List.take_length] at h1
          exact ⟨_, rfl, h1, HB.out⟩

end Go.Proofs.Ytjlfdkeklilafab

/-
  leastFirst: a list turned so that it begins with its first least element.
-/
namespace Go.Proofs.Ytjlfdkeklilafab
open Go.RowKit

/-- A part of a list that lies somewhere. -/
theorem Lst.drop {w : World} {b o n C : Nat} {l : List Int} (h : Lst w (some ⟨b, o, .none⟩) n C l) (k : Nat) : Lst w (some ⟨b, o + k, .none⟩) (n - k) (C - k) (l.drop k) := by
  refine ⟨by rw [List.length_drop, h.len], fun j x hj => ?_, fun e => by cases e⟩
  rw [List.getElem?_drop] at hj
  obtain ⟨b', o', e, hc⟩ := h.ints _ x hj
  cases e
  exact ⟨b, o + k, rfl, by rw [Nat.add_assoc]; exact hc⟩
theorem Lst.take {w : World} {A : Option Addr} {n C : Nat} {l : List Int} (h : Lst w A n C l) {k : Nat} (hk : k ≤ n) : Lst w A k C (l.take k) := by
  refine ⟨by rw [List.length_take, h.len]; omega, fun j x hj => ?_, fun e => ?_⟩
  · rw [List.getElem?_take] at hj
    split at hj
    · exact h.ints j x hj
    · cases hj
  · have := h.none e
    omega

theorem Lst.spot {w : World} {a : Addr} {n C : Nat} {l : List Int} (h : Lst w (some a) n C l) (hn : 0 < n) : ∃ b o, a = ⟨b, o, .none⟩ := by
  obtain ⟨x, hx⟩ : ∃ x, l[0]? = some x := ⟨_, List.getElem?_eq_getElem (by rw [h.len]; exact hn)⟩
  obtain ⟨b, o, e, -⟩ := h.ints 0 x hx
  cases e
  exact ⟨b, o, rfl⟩

theorem Lst.nothing (w : World) : Lst w .none 0 0 [] := ⟨rfl, fun j x hj => by simp at hj, fun _ => ⟨rfl, rfl⟩⟩
theorem RwsAt.drew {w : World} {xo : Option Addr} {ls : List (List Int)} (h : RwsAt w xo ls) : RwsAt w.drew xo ls := h.later (Below.refl _ _).drew

/-- What 'list[q:]' is. -/
theorem Lst.cut {w : World} {a : Addr} {n C q : Nat} {l : List Int} (h : Lst w (some a) n C l) (hq : q ≤ n) (hC : n ≤ C) : Lst w (if C = q then some a else some (a.add q)) (n - q) (C - q) (l.drop q) := by
  by_cases h0 : n = q
  · have e : l.drop q = [] := List.drop_eq_nil_of_le (by rw [h.len]; omega)
    rw [e]
    refine ⟨by simp; omega, fun j x hj => by simp at hj, fun e => ?_⟩
    split at e <;> cases e
  · obtain ⟨b, o, rfl⟩ := h.spot (by omega)
    rw [if_neg (by omega)]
    have ea : ((⟨b, o, .none⟩ : Addr).add q) = ⟨b, o + q, .none⟩ := by
      by_cases h0 : q = 0 <;> simp [Addr.add, h0]
    rw [ea]
    exact h.drop q

/-- Two lists, told in a new block. -/
theorem two_rows {w : World} {A A' : Option Addr} {n n' C C' : Nat} {l l' : List Int} (h : Lst w A n C l) (h' : Lst w A' n' C' l') (hn : n ≤ 17592186043904) (hn' : n' ≤ 17592186043904) (hC : n ≤ C) (hC' : n' ≤ C') (hD : C ≤ 9223372036854775807) (hD' : C' ≤ 9223372036854775807) :
    RwsAt (w.alloc (.cells #[.slice A n C, .slice A' n' C'] 39)) (some ⟨w.heap.size, 0, none⟩) [l, l'] := by
  have hb : Below w.heap.size w (w.alloc (.cells #[.slice A n C, .slice A' n' C'] 39)) := (Below.refl _ _).alloc (Nat.le_refl _) _
  obtain ⟨c0, c1, -⟩ := pair_cells (heap_alloc_new w (.cells #[.slice A n C, .slice A' n' C'] 39))
  have e := h.len
  have e' := h'.len
  subst e
  subst e'
  intro v m hm
  match v, hm with
  | 0, hm =>
    simp at hm
    subst hm
    exact ⟨_, _, A, C, rfl, c0, h.later hb, hn, hC, hD⟩
  | 1, hm =>
    simp at hm
    subst hm
    exact ⟨_, _, A', C', rfl, c1, h'.later hb, hn', hC', hD'⟩

set_option maxRecDepth 100000 in
set_option maxHeartbeats 8000000 in
theorem leastFirst_any (ao : Option Addr) (ca n : Nat) (l : List Int) (w : World) (hL : Lst w ao n ca l) (hn : n ≤ 17592186043904) (hca : n ≤ ca) (hcb : ca ≤ 9223372036854775807) :
    Calls Try.prog 30 #[.slice ao n ca] w (ListPost (Ro.canon1 l) w) := by
  have HL := Nu.hid hL
  have hll := hL.len
  have HLL := Nu.hid hll
  clear hL hll
  go_enter Try.func30, Try.ntmps30
  go_wp2
  go_loopw [3, 8] (fun c d wr => ∃ k : Nat, k ≤ n ∧ d = .int .i64 (k : Int) ∧ c = .int .i64 (Ro.at' l k : Int) ∧ wr = w) (fun _ d _ => n - (intOf d).toNat)
  case atStart => exact ⟨0, Nat.zero_le _, rfl, rfl, rfl⟩
  case round =>
    obtain ⟨k, hk, rfl, rfl, hw⟩ := hrel
    obtain rfl := hw.symm
    clear hw
    by_cases hlt : k < n
    · have hlti : (k : Int) < (n : Int) := by omega
      have hk0 : (0 : Int) ≤ (k : Int) := by omega
      obtain ⟨x, hx⟩ : ∃ x, l[k]? = some x := ⟨_, List.getElem?_eq_getElem (by have := HLL.out; omega)⟩
      have hal := Ro.at_le l k
      obtain ⟨q, hq⟩ : ∃ q, q = Ro.at' l k := ⟨_, rfl⟩
      have hqn : q < n := by omega
      obtain ⟨y, hy⟩ : ∃ y, l[q]? = some y := ⟨_, List.getElem?_eq_getElem (by have := HLL.out; omega)⟩
      obtain ⟨b, o, rfl, c0⟩ := HL.out.elem hx
      obtain ⟨b', o', e, c1⟩ := HL.out.elem hy
      cases e
      have hstep : Ro.at' l (k + 1) = if x < y then k else q := by
        show (if l.getD k 0 < l.getD (Ro.at' l k) 0 then k else Ro.at' l k) = _
        rw [← hq, List.getD_eq_getElem?_getD, List.getD_eq_getElem?_getD, hx, hy]
        rfl
      rw [← hq]
      have hq0 : (0 : Int) ≤ (q : Int) := by omega
      have hqn2 : (q : Int) < (n : Int) := by omega
      by_cases hxy : x < y
      · have HS : Hid (Ro.at' l (k + 1) = k) := by show _ = _; rw [hstep, if_pos hxy]
        clear hstep hq hx hy hal
        go_wp2
        go_roundw
        case rel => exact ⟨k + 1, by omega, by go_num, by rw [HS.out], by first | rfl | trivial⟩
        case measure => simp [intOf]; omega
      · have HS : Hid (Ro.at' l (k + 1) = q) := by show _ = _; rw [hstep, if_neg hxy]
        clear hstep hq hx hy hal
        go_wp2
        go_roundw
        case rel => exact ⟨k + 1, by omega, by go_num, by rw [HS.out], by first | rfl | trivial⟩
        case measure => simp [intOf]; omega
    · have hlti : ¬ (k : Int) < (n : Int) := by omega
      obtain rfl : k = n := by omega
      have hal := Ro.at_le l k
      have hq : Ro.canon1 l = l.drop (Ro.at' l k) ++ l.take (Ro.at' l k) := by rw [← HLL.out]; rfl
      obtain ⟨q, hqe⟩ : ∃ q, q = Ro.at' l k := ⟨_, rfl⟩
      rw [← hqe] at hq hal ⊢
      have HQ := Nu.hid hq
      clear hq hqe
      have hq0 : ¬ (q : Int) < 0 := by omega
      have hqk : ¬ (k : Int) < (q : Int) := by omega
      have hfl : [l.drop q, l.take q].flatten = Ro.canon1 l := by rw [HQ.out]; simp
      have hfl2 : [l.drop q, l.take q].flatten.length ≤ 17592186044000 := by
        rw [hfl, Ro.canon1_len]
        have := HLL.out
        omega
      have hdl : (l.drop q).length = k - q := by rw [List.length_drop, HLL.out]
      have htl : (l.take q).length = q := by rw [List.length_take, HLL.out]; omega
      have HCC := Nu.hid (fun (xo : Option Addr) (W : World) (hx : RwsAt W xo [l.drop q, l.take q]) => concat_any xo 2 [l.drop q, l.take q] W hx (by simp) hfl2)
      rw [hfl] at HCC
      have HDL := Nu.hid hdl
      have HTL := Nu.hid htl
      clear hfl hfl2 hdl htl
      rcases ao with _ | a
      · obtain ⟨rfl, rfl⟩ := HL.out.none rfl
        obtain rfl : q = 0 := by omega
        have HL0 : Hid (l = []) := List.length_eq_zero_iff.1 HLL.out
        go_wp2_with fail
        go_region_held3 (fun V => Below w.heap.size w V) (first | assumption | exact (Below.refl _ _).drew | exact Below.alloc (by first | assumption | exact (Below.refl _ _).drew) (Below.size (by first | assumption | exact (Below.refl _ _).drew)) _)
          ((go_at_call 44; refine (HCC.out _ _ (two_rows (A := none) (A' := none) (C := 0) (C' := 0) (l := l.drop 0) (l' := l.take 0) (by rw [HL0.out]; exact Lst.nothing _) (by rw [HL0.out]; exact Lst.nothing _) (Nat.zero_le _) (Nat.zero_le _) (Nat.le_refl _) (Nat.le_refl _) (Nat.zero_le _) (Nat.zero_le _)).drew).mono ?_; rintro e V1 ⟨v, rfl, ho, hb1⟩; have hb2 : Below w.heap.size w V1 := Below.trans ((Below.refl w.heap.size w).alloc (Nat.le_refl _) _).drew (hb1.mono (by simp))))
        go_wp2
        go_ret
        exact ⟨_, rfl, ho.lower (by simp), hb2⟩
      · obtain ⟨b, o, sp⟩ := a
        have hT := (two_rows (HL.out.cut hal hca) (HL.out.take hal) (by omega) (by omega) (by omega) (by omega) (by omega) (by omega)).drew
        have hc1 : (ca : Int) - (q : Int) = ((ca - q : Nat) : Int) := by omega
        have hc2 : (k : Int) - (q : Int) = ((k - q : Nat) : Int) := by omega
        have hqc : ¬ (ca : Int) < (q : Int) := by omega
        have hkc : ¬ (ca : Int) < (k : Int) := by omega
        by_cases hcq : ca = q
        · rw [if_pos hcq] at hT
          obtain rfl : q = k := by omega
          obtain rfl : ca = q := hcq
          simp only [Nat.sub_self] at hT hc1 hc2
          have HT := Nu.hid hT
          clear hT hc1 hc2
          go_wp2_with fail
          go_region_held3 (fun V => Below w.heap.size w V) (first | assumption | exact (Below.refl _ _).drew | exact Below.alloc (by first | assumption | exact (Below.refl _ _).drew) (Below.size (by first | assumption | exact (Below.refl _ _).drew)) _)
            ((go_at_call 44; refine (HCC.out _ _ HT.out).mono ?_; rintro e V1 ⟨v, rfl, ho, hb1⟩; have hb2 : Below w.heap.size w V1 := Below.trans ((Below.refl w.heap.size w).alloc (Nat.le_refl _) _).drew (hb1.mono (by simp))))
          go_wp2
          go_ret
          exact ⟨_, rfl, ho.lower (by simp), hb2⟩
        · rw [if_neg hcq] at hT
          have HT := Nu.hid hT
          clear hT
          go_wp2_with fail
          go_region_held3 (fun V => Below w.heap.size w V) (first | assumption | exact (Below.refl _ _).drew | exact Below.alloc (by first | assumption | exact (Below.refl _ _).drew) (Below.size (by first | assumption | exact (Below.refl _ _).drew)) _)
            ((go_at_call 44; refine (HCC.out _ _ HT.out).mono ?_; rintro e V1 ⟨v, rfl, ho, hb1⟩; have hb2 : Below w.heap.size w V1 := Below.trans ((Below.refl w.heap.size w).alloc (Nat.le_refl _) _).drew (hb1.mono (by simp))))
          go_wp2
          go_ret
          exact ⟨_, rfl, ho.lower (by simp), hb2⟩

end Go.Proofs.Ytjlfdkeklilafab

/-
  A copy of a list, the other way round.
-/
namespace Go.Proofs.Ytjlfdkeklilafab
open Go.RowKit

namespace Ro
/-- i pairs of elements have been exchanged, from both ends inward. -/
def rev (l : List Int) : Nat → List Int
  | 0 => l
  | i + 1 => ((rev l i).set i (l.getD (l.length - 1 - i) 0)).set (l.length - 1 - i) (l.getD i 0)
theorem rev_len (l : List Int) : ∀ i, (rev l i).length = l.length
  | 0 => rfl
  | i + 1 => by simp [rev, rev_len l i]
theorem rev_at (l : List Int) : ∀ i, 2 * i ≤ l.length → ∀ t, t < l.length → (rev l i)[t]? = if t < i ∨ l.length - i ≤ t then l[l.length - 1 - t]? else l[t]?
  | 0, _, t, ht => by
    rw [if_neg (by omega)]
    rfl
  | i + 1, hi, t, ht => by
    have ih := rev_at l i (by omega) t ht
    have e1 : l[i]? = some (l.getD i 0) := by
      rw [List.getD_eq_getElem?_getD, List.getElem?_eq_getElem (by omega)]
      rfl
    have e2 : l[l.length - 1 - i]? = some (l.getD (l.length - 1 - i) 0) := by
      rw [List.getD_eq_getElem?_getD, List.getElem?_eq_getElem (by omega)]
      rfl
    unfold rev
    rw [List.getElem?_set, List.getElem?_set, List.length_set, rev_len]
    by_cases h1 : l.length - 1 - i = t
    · rw [if_pos h1, if_pos (by omega), if_pos (by omega), show l.length - 1 - t = i by omega, e1]
    · rw [if_neg h1]
      by_cases h2 : i = t
      · rw [if_pos h2, if_pos (by omega), if_pos (by omega), ← h2, e2]
      · rw [if_neg h2, ih]
        by_cases h3 : t < i ∨ l.length - i ≤ t
        · rw [if_pos h3, if_pos (by omega)]
        · rw [if_neg h3, if_neg (by omega)]
theorem rev_all {l : List Int} {i : Nat} (h : 2 * i ≤ l.length) (h2 : l.length ≤ 2 * i + 1) : rev l i = l.reverse := by
  refine List.ext_getElem? fun t => ?_
  by_cases ht : t < l.length
  · rw [rev_at l i h t ht, List.getElem?_reverse ht]
    by_cases h3 : t < i ∨ l.length - i ≤ t
    · rw [if_pos h3]
    · rw [if_neg h3, show l.length - 1 - t = t by omega]
  · rw [List.getElem?_eq_none (by rw [rev_len]; omega), List.getElem?_eq_none (by simp; omega)]
end Ro

/-- A list of one's own, element by element; a store into it. -/
theorem OwnZ.cellAt {w : World} {B g n c : Nat} {l : List Int} (h : OwnZ w B (.slice (some ⟨g, 0, none⟩) n c) l) {i : Nat} {x : Int} (hx : l[i]? = some x) : w.cell? ⟨g, i, none⟩ = some (.int .i64 x) := by
  have hc := World.ownsRow.cells h (g := g) rfl i (.int .i64 x) (by rw [List.getElem?_map, hx]; rfl)
  have ea : ((⟨g, 0, none⟩ : Addr).add i) = ⟨g, i, none⟩ := by
    by_cases h0 : i = 0 <;> simp [Addr.add, h0]
  rw [ea] at hc
  exact hc
theorem OwnZ.len {w : World} {B g n c : Nat} {l : List Int} (h : OwnZ w B (.slice (some ⟨g, 0, none⟩) n c) l) : n = l.length := by
  rcases h.2 with ⟨h', _⟩ | ⟨g', cap, cur, h', _⟩
  · cases h'
  · cases h'; rfl
theorem OwnZ.free {w : World} {B g n c : Nat} {l : List Int} (h : OwnZ w B (.slice (some ⟨g, 0, none⟩) n c) l) (i : Nat) : w.frozen? ⟨g, i, none⟩ = false := by
  obtain rfl := h.len
  exact World.ownsRow.frozenAt h i
theorem OwnZ.set {w : World} {B g n c : Nat} {l : List Int} (h : OwnZ w B (.slice (some ⟨g, 0, none⟩) n c) l) (i : Nat) (x : Int) : OwnZ (w.setCell ⟨g, i, none⟩ (.int .i64 x)) B (.slice (some ⟨g, 0, none⟩) n c) (l.set i x) := by
  obtain rfl := h.len
  have := (World.ownsRow.stored h i (.int .i64 x)).1
  unfold OwnZ
  rw [List.length_set, List.map_set]
  exact this

def RevPost (B : Nat) (v : Value) (l : List Int) (w : World) (e : Ending) (w' : World) : Prop := e = .returned (.tuple #[]) ∧ OwnZ w' B v l.reverse ∧ Below B w w'

set_option maxRecDepth 100000 in
set_option maxHeartbeats 8000000 in
theorem reverse_any (B : Nat) (v : Value) (l : List Int) (w : World) (h : OwnZ w B v l) (hl : l.length ≤ 17592186043904) :
    Calls Try.prog 46 #[v] w (RevPost B v l w) := by
  by_cases h0 : l = []
  · subst h0
    have hv : ∃ ao c, v = .slice ao 0 c := by
      obtain ⟨ao, c, e, -⟩ := h.form
      exact ⟨ao, c, e⟩
    obtain ⟨ao, c, rfl⟩ := hv
    have H := Nu.hid h
    clear h
    go_enter Try.func46, Try.ntmps46
    go_wp2
    go_loopw [2, 3] (fun c d wr => c = .int .i64 0 ∧ d = .int .i64 (-1) ∧ wr = w) (fun _ _ _ => 0)
    case atStart => exact ⟨rfl, rfl, rfl⟩
    case round =>
      obtain ⟨rfl, rfl, hw⟩ := hrel
      obtain rfl := hw.symm
      go_wp2
      go_end0
      exact ⟨rfl, H.out, Below.refl _ _⟩
  · have hpos : 0 < l.length := List.length_pos_iff.2 h0
    have hv : ∃ g c, v = .slice (some ⟨g, 0, none⟩) l.length c := by
      rcases h.2 with ⟨_, h'⟩ | ⟨g, c, cur, h', _⟩
      · omega
      · exact ⟨g, c, h'⟩
    obtain ⟨g, c, rfl⟩ := hv
    have hgB := (World.ownsRow.lt h g rfl).1
    obtain ⟨n, hn⟩ : ∃ n, n = l.length := ⟨_, rfl⟩
    rw [← hn] at h hpos hl ⊢
    have H := Nu.hid h
    have HN := Nu.hid hn
    clear h hn h0
    go_enter Try.func46, Try.ntmps46
    go_wp2
    go_loopw [2, 3] (fun c2 d wr => ∃ i : Nat, 2 * i ≤ n ∧ c2 = .int .i64 (i : Int) ∧ d = .int .i64 ((n : Int) - 1 - (i : Int)) ∧ OwnZ wr B (.slice (some ⟨g, 0, none⟩) n c) (Ro.rev l i) ∧ Below B w wr) (fun c2 _ _ => n - (intOf c2).toNat)
    case atStart => exact ⟨0, by omega, rfl, by simp, H.out, Below.refl _ _⟩
    case round =>
      obtain ⟨i, hi, rfl, rfl, ho, hb⟩ := hrel
      have HO := Nu.hid ho
      have HB := Nu.hid hb
      clear ho hb
      by_cases hlt : (i : Int) < (n : Int) - 1 - (i : Int)
      · obtain ⟨j, hj⟩ : ∃ j : Nat, (n : Int) - 1 - (i : Int) = (j : Int) := ⟨n - 1 - i, by omega⟩
        have hjn : j < n := by omega
        have hij : i ≠ j := by omega
        have hje : j = n - 1 - i := by omega
        rw [hj] at hlt ⊢
        obtain ⟨x, hx⟩ : ∃ x, (Ro.rev l i)[i]? = some x := ⟨_, List.getElem?_eq_getElem (by rw [Ro.rev_len, ← HN.out]; omega)⟩
        obtain ⟨y, hy⟩ : ∃ y, (Ro.rev l i)[j]? = some y := ⟨_, List.getElem?_eq_getElem (by rw [Ro.rev_len, ← HN.out]; omega)⟩
        have c0 := HO.out.cellAt hx
        have c1 := HO.out.cellAt hy
        have f0 := HO.out.free i
        have hset := HO.out.set i y
        have c2' := hset.cellAt (i := j) (x := y) (by rw [List.getElem?_set, if_neg hij]; exact hy)
        have f1 := hset.free j
        have hset2 := hset.set j x
        have hxe := Ro.rev_at l i (by rw [← HN.out]; omega) i (by rw [← HN.out]; omega)
        have hye := Ro.rev_at l i (by rw [← HN.out]; omega) j (by rw [← HN.out]; omega)
        rw [← HN.out, if_neg (by omega), hx] at hxe
        rw [← HN.out, if_neg (by omega), hy] at hye
        have hstep : ((Ro.rev l i).set i y).set j x = Ro.rev l (i + 1) := by
          show _ = ((Ro.rev l i).set i (l.getD (l.length - 1 - i) 0)).set (l.length - 1 - i) (l.getD i 0)
          rw [← HN.out, ← hje, List.getD_eq_getElem?_getD, List.getD_eq_getElem?_getD, ← hxe, ← hye]
          rfl
        rw [hstep] at hset2
        have HS2 := Nu.hid hset2
        have hj0 : (0 : Int) ≤ (j : Int) := by omega
        have hi0 : (0 : Int) ≤ (i : Int) := by omega
        have hjn2 : (j : Int) < (n : Int) := by omega
        have hin2 : (i : Int) < (n : Int) := by omega
        have HJ := Nu.hid hj
        clear hset hset2 hx hy hxe hye hstep hje hj
        go_wp2_with fail
        go_big_region
        go_wp2
        go_roundw
        case rel =>
          have hj := HJ.out
          refine ⟨i + 1, by omega, by go_num, ?_, HS2.out, ?_⟩
          · congr 1
            omega
          · first | exact HB.out.trans ((below_setCell (g := g) (j := i) _ hgB).trans (below_setCell (g := g) _ hgB)) | exact (HB.out.trans ((below_setCell (g := g) (j := i) _ hgB).trans (below_setCell (g := g) _ hgB))).drew
        case measure => simp [intOf]; omega
      · have HE := Nu.hid (Ro.rev_all (l := l) (i := i) (by rw [← HN.out]; omega) (by rw [← HN.out]; omega))
        go_wp2
        go_end0
        refine ⟨rfl, ?_, HB.out⟩
        rw [← HE.out]
        exact HO.out

set_option maxRecDepth 100000 in
set_option maxHeartbeats 4000000 in
theorem clone11_any (ao : Option Addr) (n ca : Nat) (l : List Int) (w : World) (h : Lst w ao n ca l) (hn : n ≤ 17592186043904) :
    Calls Try.prog 45 #[.slice ao n ca] w (ListPost l w) := by
  have HR := Nu.hid h
  have hnil := fun w => Lib.run_eql_slice_nil (P := Try.prog) w 39 3 ao n ca 0 0 Try.underlying39
  rcases ao with _ | y
  · obtain ⟨rfl, rfl⟩ := h.none rfl
    have hl := List.length_eq_zero_iff.1 h.len
    subst hl
    clear h
    go_enter Try.func45, Try.ntmps45
    go_wp2
    go_ret
    exact ⟨_, rfl, OwnZ.nil _ _, Below.refl _ _⟩
  · have hlen := h.len
    clear h
    have HLEN := Nu.hid hlen
    clear hlen
    go_enter Try.func45, Try.ntmps45
    go_wp2_with (at_builtin; refine wpList_copy_lst rfl _ _ rfl w (some y) n ca l rfl rfl HR.out hn ?_; refine Hid.out ?_)
    refine Nu.hid ?_
    intro gb c w1 hrow hgb hlt hc hb
    have HX := Nu.hid hrow
    have HB := Nu.hid hb
    clear hrow hb hgb
    go_wp2
    go_ret
    refine ⟨_, rfl, ?_, HB.out⟩
    have hx := HX.out
    have e := HLEN.out
    subst e
    exact hx

set_option maxRecDepth 100000 in
set_option maxHeartbeats 4000000 in
theorem backward11_any (ao : Option Addr) (n ca : Nat) (l : List Int) (w : World) (h : Lst w ao n ca l) (hn : n ≤ 17592186043904) :
    Calls Try.prog 32 #[.slice ao n ca] w (ListPost l.reverse w) := by
  have HC := Nu.hid (clone11_any ao n ca l w h hn)
  have hll := h.len
  have HLL := Nu.hid hll
  clear h hll
  go_enter Try.func32, Try.ntmps32
  go_wp2_with (go_at_call 45; refine HC.out.mono ?_; refine Hid.out ?_)
  refine Nu.hid ?_
  rintro e w1 ⟨v, rfl, ho, hb⟩
  have HR := Nu.hid (reverse_any w.heap.size v l w1 ho (by have := HLL.out; omega))
  have HB := Nu.hid hb
  clear ho hb
  go_wp2_with (go_at_call 46; refine HR.out.mono ?_; refine Hid.out ?_)
  refine Nu.hid ?_
  rintro e w2 ⟨rfl, ho, hb⟩
  have HO := Nu.hid ho
  have HB2 := Nu.hid (HB.out.trans hb)
  clear ho hb
  go_wp2
  go_ret
  exact ⟨_, rfl, HO.out, HB2.out⟩

end Go.Proofs.Ytjlfdkeklilafab
