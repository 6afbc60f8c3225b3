import Derived.Test.YtfjgmbimapkabaaDoorMg18
import Derived.Shelf.LaysM
import Derived.Shelf.Strconv.AppendIntPublic10
/-
  The document's Print of lists.
-/
namespace Go.Proofs.YtfjgmbimapkabaaDoor
open Go.RowKit

namespace Ce
/-- The numbers of a list behind another, a blank ahead of each. -/
def jt (l : List Int) : List UInt8 := l.flatMap fun x => 32 :: dg x
theorem jn_jt (x : Int) : ∀ r, jn (x :: r) = dg x ++ jt r
  | [] => by simp [jn, jt]
  | y :: r => by
    have ih := jn_jt y r
    have e : jn (x :: y :: r) = dg x ++ 32 :: jn (y :: r) := rfl
    rw [e, ih]
    simp [jt]
/-- What is still to be written of a line. -/
def rem (l : List Int) (j : Nat) : List UInt8 := if j = 0 then jn l else jt (l.drop j)
theorem rem_first {l : List Int} {x : Int} (h : l[0]? = some x) : rem l 0 = dg x ++ rem l 1 := by
  cases l with
  | nil => cases h
  | cons y r =>
    cases h
    unfold rem
    rw [if_pos rfl, jn_jt, if_neg (by omega)]
    rfl
theorem rem_next {l : List Int} {x : Int} {j : Nat} (hj : 0 < j) (h : l[j]? = some x) : rem l j = 32 :: (dg x ++ rem l (j + 1)) := by
  unfold rem
  rw [if_neg (by omega), if_neg (by omega), drop_at h]
  simp [jt]
theorem rem_end (l : List Int) : rem l l.length = [] := by
  unfold rem
  split
  · rename_i h
    rw [List.length_eq_zero_iff.1 h]
    rfl
  · simp [jt]
end Ce

set_option maxRecDepth 100000 in
set_option maxHeartbeats 4000000 in
theorem rprint17_lists {w : World} {ls : List (List Int)} {ao eo : Option Addr} {m ca ce : Nat} (ha : Ce.ListsAt w ao ls) (hn : m = 0) (hg : Ce.okLs ls) (hl : ∀ l ∈ ls, l.length ≤ 4611686018427387904) (T : List UInt8) (hT : Ce.textB ⟨true, ls, []⟩ = T) (hTl : T.length ≤ 70368744177664) :
    Calls Tryd.prog 12 #[.agg #[.bool true, .slice ao ls.length ca, .slice eo m ce]] w fun e w' => Prt T e ∧ Below w.heap.size w w' := by
  subst hn
  have HS := Nu.hid (PrS.start (w := w) (pl := true) (ao := ao) (eo := eo) (na := ls.length) (ca := ca) (ne := 0) (ce := ce))
  have h2 : ls.length ≤ 4611686018427387904 := by have := hg.2; omega
  have HE1 : Hid (Calls Tryd.prog 20 #[.slice ao ls.length ca] (w.alloc (.cells #[.bool true, .slice ao ls.length ca, .slice eo 0 ce] 27)) fun e w' => e = .returned (.bool true) ∧ PrS w true ao eo ls.length ca 0 ce (.slice none 0 0) [] w') := (rlists17_any (ha.later HS.out.low) h2 hl).mono (by
    rintro e w' ⟨⟨t, he, ht⟩, hb⟩
    refine ⟨?_, HS.out.later hb⟩
    rw [he]
    cases t with
    | true => rfl
    | false => exact absurd (ht.2 hg) Bool.false_ne_true)
  obtain ⟨n, hm⟩ : ∃ n, ls.length = n := ⟨_, rfl⟩
  have hms : n ≤ 1048576 := by have := hg.2; omega
  have hok : Ce.okN (n : Int) := ⟨by omega, by omega⟩
  obtain ⟨D, hD⟩ : ∃ D, Ce.dg (n : Int) = D := ⟨_, rfl⟩
  have hDl : D.length ≤ 9 := by rw [← hD]; exact Ce.dg_short hok
  have HTX : Hid (∀ W, Calls Tryd.prog 22 #[.int .i64 (n : Int)] W fun e w' => e = .returned (.string ⟨D.toArray⟩) ∧ Below W.heap.size W w') := fun W => by rw [← hD]; exact rtext17 hok W
  have HEQ : Hid ([112, 32] ++ D ++ [10] ++ (ls.drop 0).flatMap Ce.lineB = T) := by
    refine Nu.hid ?_
    rw [← hT, ← hD, ← hm]
    simp [Ce.textB, Ce.cntC, Ce.bodyB]
  have HG := Nu.hid hg
  have HLs := Nu.hid ha
  have HLL := Nu.hid hl
  have HM := Nu.hid hm
  have HTL := Nu.hid hTl
  rw [hm] at HS HE1 h2 ⊢
  obtain ⟨v0, v1, v2, vf⟩ := HS.out.cells
  clear ha hl hg hT hTl hm hok hD
  go_enter Tryd.func12, Tryd.ntmps12
  have hl1 : ([] : List UInt8).length + ([112, 32] : List UInt8).length ≤ 140737488355328 := by simp
  go_wp2_with (first | (go_at_call 20; refine HE1.out.mono ?_; rintro e w0 ⟨rfl, hp⟩; have HP := Nu.hid hp; clear hp v0 v1 v2 vf; obtain ⟨v0, v1, v2, vf⟩ := HP.out.cells) | (at_builtin; refine wpList_bytes17 rfl _ _ rfl _ (w.heap.size + 1) _ _ [112, 32] HP.out.bts HP.out.size hl1 rfl _ rfl rfl ?_; refine Hid.out ?_))
  refine Nu.hid ?_
  intro x1 w1 qa qb
  have hh := (HP.out.later ((Below.refl _ _).alloc (Nat.le_refl _) _)).grown qa qb
  have HB1 : Hid (PrS w true ao eo n ca 0 ce x1 ([] ++ [112, 32]) w1) := Nu.hid (by first | exact hh | (simp only [List.append_assoc, List.nil_append, List.cons_append] at hh ⊢; exact hh))
  clear qa qb hh hl1
  clear v0 v1 v2 vf
  obtain ⟨v0, v1, v2, vf⟩ := HB1.out.cells
  have hl2 : ([] ++ [112, 32] : List UInt8).length + (D : List UInt8).length ≤ 140737488355328 := by simp; omega
  go_wp2_with (first | (go_at_call 22; refine (HTX.out _).mono ?_; rintro e y2 ⟨rfl, hb⟩; have HC2 := Nu.hid (HB1.out.later hb); clear hb v0 v1 v2 vf; obtain ⟨v0, v1, v2, vf⟩ := HC2.out.cells) | (at_builtin; refine wpList_text17 rfl _ _ rfl _ (w.heap.size + 1) _ _ D rfl rfl HC2.out.bts hl2 (by have := HC2.out.size; omega) ?_; refine Hid.out ?_))
  refine Nu.hid ?_
  intro x2 w2 qa qb
  have hh := HC2.out.grown qa qb
  have HB2 : Hid (PrS w true ao eo n ca 0 ce x2 ([] ++ [112, 32] ++ D) w2) := Nu.hid (by first | exact hh | (simp only [List.append_assoc, List.nil_append, List.cons_append] at hh ⊢; exact hh))
  clear qa qb hh hl2
  clear v0 v1 v2 vf
  obtain ⟨v0, v1, v2, vf⟩ := HB2.out.cells
  have hl3 : ([] ++ [112, 32] ++ D : List UInt8).length + ([10] : List UInt8).length ≤ 140737488355328 := by simp; omega
  go_wp2_with (first | (at_builtin; refine wpList_bytes17 rfl _ _ rfl _ (w.heap.size + 1) _ _ [10] HB2.out.bts HB2.out.size hl3 rfl _ rfl rfl ?_; refine Hid.out ?_))
  refine Nu.hid ?_
  intro x3 w3 qa qb
  have hh := (HB2.out.later ((Below.refl _ _).alloc (Nat.le_refl _) _)).grown qa qb
  have HB3 : Hid (PrS w true ao eo n ca 0 ce x3 ([] ++ [112, 32] ++ D ++ [10]) w3) := Nu.hid (by first | exact hh | (simp only [List.append_assoc, List.nil_append, List.cons_append] at hh ⊢; exact hh))
  clear qa qb hh hl3
  clear v0 v1 v2 vf
  obtain ⟨v0, v1, v2, vf⟩ := HB3.out.cells
  go_wp2
  go_loopw [4, 5] (fun bv iv wr => ∃ (k : Nat) (v : Value) (L : List UInt8), k ≤ n ∧ iv = .int .i64 (k : Int) ∧ bv = v ∧ PrS w true ao eo n ca 0 ce v L wr ∧ L ++ (ls.drop k).flatMap Ce.lineB = T) (fun _ iv _ => n - (intOf iv).toNat)
  case atStart => exact ⟨0, _, _, Nat.zero_le _, rfl, rfl, HB3.out, HEQ.out⟩
  case round =>
    obtain ⟨k, v, L, hk, rfl, rfl, hps, heq⟩ := hrel
    clear v0 v1 v2 vf
    have HP0 := Nu.hid hps
    have HQ := Nu.hid heq
    clear hps heq
    obtain ⟨v0, v1, v2, vf⟩ := HP0.out.cells
    by_cases hlt : k < n
    · have hlti : (k : Int) < (n : Int) := by omega
      have k0 : (0 : Int) ≤ (k : Int) := by omega
      obtain ⟨l, hp⟩ : ∃ l, ls[k]? = some l := ⟨_, List.getElem?_eq_getElem (by have := HM.out; omega)⟩
      have HOK := Nu.hid (HG.out.1 _ (List.mem_of_getElem? hp))
      have hql := HLL.out _ (List.mem_of_getElem? hp)
      have HK := Nu.hid hp
      rw [Ce.drop_at hp, List.flatMap_cons] at HQ
      obtain ⟨R, hR⟩ : ∃ R, (ls.drop (k + 1)).flatMap Ce.lineB = R := ⟨_, rfl⟩
      rw [hR] at HQ
      have HQ1 : Hid (L ++ (Ce.rem l 0 ++ 10 :: R) = T) := by
        refine Nu.hid ?_
        rw [← HQ.out]
        simp [Ce.lineB, Ce.rem]
      obtain ⟨q, hq⟩ : ∃ q, l.length = q := ⟨_, rfl⟩
      rw [hq] at hql
      have HLQ := Nu.hid hq
      have HR := Nu.hid hR
      clear hp hR hq HQ
      go_wp2
      go_loopw [4, 6] (fun bv jv wr => ∃ (j : Nat) (v : Value) (L : List UInt8), j ≤ q ∧ jv = .int .i64 (j : Int) ∧ bv = v ∧ PrS w true ao eo n ca 0 ce v L wr ∧ L ++ (Ce.rem l j ++ 10 :: R) = T) (fun _ jv _ => q - (intOf jv).toNat)
      case atStart => exact ⟨0, _, _, Nat.zero_le _, rfl, rfl, HP0.out, HQ1.out⟩
      case round =>
        obtain ⟨j, v, L, hj, rfl, rfl, hps, heq⟩ := hrel
        clear v0 v1 v2 vf HP0 HQ1
        have HP0 := Nu.hid hps
        have HQ := Nu.hid heq
        clear hps heq
        obtain ⟨v0, v1, v2, vf⟩ := HP0.out.cells
        have j0 : (0 : Int) ≤ (j : Int) := by omega
        by_cases hjq : j < q
        · have hjqi : (j : Int) < (q : Int) := by omega
          obtain ⟨x, hx⟩ : ∃ x, l[j]? = some x := ⟨_, List.getElem?_eq_getElem (by have := HLQ.out; omega)⟩
          have hox := (HOK.out x (List.mem_of_getElem? hx)).1
          obtain ⟨D1, hD1⟩ : ∃ D, Ce.dg x = D := ⟨_, rfl⟩
          have HT1 : Hid (∀ W, Calls Tryd.prog 22 #[.int .i64 x] W fun e w' => e = .returned (.string ⟨D1.toArray⟩) ∧ Below W.heap.size W w') := fun W => by rw [← hD1]; exact rtext17 hox W
          have HX := Nu.hid hx
          have HD1 := Nu.hid hD1
          clear hx hox hD1
          by_cases hj0 : j = 0
          · have m3 : ¬ ((0 : Int) < (j : Int)) := by omega
            have m3a : ¬ (0 < j) := by omega
            have m3c : decide (0 < j) = false := decide_eq_false m3a
            have HQ2 : Hid (L ++ D1 ++ (Ce.rem l (j + 1) ++ 10 :: R) = T) := by
              refine Nu.hid ?_
              rw [← HQ.out, ← HD1.out, hj0, Ce.rem_first (by rw [← hj0]; exact HX.out)]
              simp
            clear hj0
            have HQ3 := Nu.hid (congrArg List.length HQ2.out)
            simp only [List.length_append, List.length_cons] at HQ3
            obtain ⟨b, o, xa, xc, rfl, c0, hia⟩ := HLs.out.later HP0.out.low k l HK.out
            rw [HLQ.out] at c0
            obtain ⟨xb, xo, rfl, c1⟩ := hia j x HX.out
            clear hia
            have hl4 : (L : List UInt8).length + (D1 : List UInt8).length ≤ 140737488355328 := by have := HQ3.out; have := HTL.out; (try simp only [List.length_append, List.length_cons, List.length_nil]); omega
            go_wp2_with (first | (go_at_call 22; refine (HT1.out _).mono ?_; rintro e y4 ⟨rfl, hb⟩; have HC4 := Nu.hid (HP0.out.later hb); clear hb v0 v1 v2 vf; obtain ⟨v0, v1, v2, vf⟩ := HC4.out.cells) | (at_builtin; refine wpList_text17 rfl _ _ rfl _ (w.heap.size + 1) _ _ D1 rfl rfl HC4.out.bts hl4 (by have := HC4.out.size; omega) ?_; refine Hid.out ?_))
            refine Nu.hid ?_
            intro x4 w4 qa qb
            have hh := HC4.out.grown qa qb
            have HB4 : Hid (PrS w true (some ⟨b, o, none⟩) eo n ca 0 ce x4 (L ++ D1) w4) := Nu.hid (by first | exact hh | (simp only [List.append_assoc, List.nil_append, List.cons_append] at hh ⊢; exact hh))
            clear qa qb hh hl4
            clear v0 v1 v2 vf
            obtain ⟨v0, v1, v2, vf⟩ := HB4.out.cells
            go_wp2
            go_roundw
            case rel => exact ⟨j + 1, _, _, by omega, by go_num, rfl, HB4.out, by rw [← HQ2.out]; try simp⟩
            case measure => simp [intOf]; omega
          · have m3 : (0 : Int) < (j : Int) := by omega
            have m3a : 0 < j := by omega
            have m3c : decide (0 < j) = true := decide_eq_true m3a
            have HQ2 : Hid (L ++ [32] ++ D1 ++ (Ce.rem l (j + 1) ++ 10 :: R) = T) := by
              refine Nu.hid ?_
              rw [← HQ.out, ← HD1.out, Ce.rem_next m3a HX.out]
              simp
            clear hj0
            have HQ3 := Nu.hid (congrArg List.length HQ2.out)
            simp only [List.length_append, List.length_cons, List.length_nil] at HQ3
            obtain ⟨b, o, xa, xc, rfl, c0, hia⟩ := HLs.out.later HP0.out.low k l HK.out
            rw [HLQ.out] at c0
            obtain ⟨xb, xo, rfl, c1⟩ := hia j x HX.out
            clear hia
            have hl5 : (L : List UInt8).length + ([32] : List UInt8).length ≤ 140737488355328 := by have := HQ3.out; have := HTL.out; (try simp only [List.length_cons, List.length_nil]); omega
            go_wp2_with (first | (at_builtin; refine wpList_bytes17 rfl _ _ rfl _ (w.heap.size + 1) _ _ [32] HP0.out.bts HP0.out.size hl5 rfl _ rfl rfl ?_; refine Hid.out ?_))
            refine Nu.hid ?_
            intro x5 w5 qa qb
            have hh := (HP0.out.later ((Below.refl _ _).alloc (Nat.le_refl _) _)).grown qa qb
            have HB5 : Hid (PrS w true (some ⟨b, o, none⟩) eo n ca 0 ce x5 (L ++ [32]) w5) := Nu.hid (by first | exact hh | (simp only [List.append_assoc, List.nil_append, List.cons_append] at hh ⊢; exact hh))
            clear qa qb hh hl5
            clear v0 v1 v2 vf
            obtain ⟨v0, v1, v2, vf⟩ := HB5.out.cells
            clear c0 c1
            obtain ⟨b', o', xa', xc', e', c0, hia⟩ := HLs.out.later HB5.out.low k l HK.out
            cases e'
            rw [HLQ.out] at c0
            obtain ⟨xb', xo', e2, c1⟩ := hia j x HX.out
            cases e2
            clear hia
            have hl6 : (L ++ [32] : List UInt8).length + (D1 : List UInt8).length ≤ 140737488355328 := by have := HQ3.out; have := HTL.out; (try simp only [List.length_append, List.length_cons, List.length_nil]); omega
            go_wp2_with (first | (go_at_call 22; refine (HT1.out _).mono ?_; rintro e y6 ⟨rfl, hb⟩; have HC6 := Nu.hid (HB5.out.later hb); clear hb v0 v1 v2 vf; obtain ⟨v0, v1, v2, vf⟩ := HC6.out.cells) | (at_builtin; refine wpList_text17 rfl _ _ rfl _ (w.heap.size + 1) _ _ D1 rfl rfl HC6.out.bts hl6 (by have := HC6.out.size; omega) ?_; refine Hid.out ?_))
            refine Nu.hid ?_
            intro x6 w6 qa qb
            have hh := HC6.out.grown qa qb
            have HB6 : Hid (PrS w true (some ⟨b, o, none⟩) eo n ca 0 ce x6 (L ++ [32] ++ D1) w6) := Nu.hid (by first | exact hh | (simp only [List.append_assoc, List.nil_append, List.cons_append] at hh ⊢; exact hh))
            clear qa qb hh hl6
            clear v0 v1 v2 vf
            obtain ⟨v0, v1, v2, vf⟩ := HB6.out.cells
            go_wp2
            go_roundw
            case rel => exact ⟨j + 1, _, _, by omega, by go_num, rfl, HB6.out, by rw [← HQ2.out]; try simp⟩
            case measure => simp [intOf]; omega
        · have hjqi : ¬ ((j : Int) < (q : Int)) := by omega
          obtain rfl : j = q := by omega
          have hz : Ce.rem l j = [] := by have := Ce.rem_end l; rw [HLQ.out] at this; exact this
          rw [hz, List.nil_append] at HQ
          have HQ3 := Nu.hid (congrArg List.length HQ.out)
          simp only [List.length_append, List.length_cons] at HQ3
          obtain ⟨b, o, xa, xc, rfl, c0, -⟩ := HLs.out.later HP0.out.low k l HK.out
          rw [HLQ.out] at c0
          clear hz
          have hl7 : (L : List UInt8).length + ([10] : List UInt8).length ≤ 140737488355328 := by have := HQ3.out; have := HTL.out; (try simp only [List.length_cons, List.length_nil]); omega
          go_wp2_with (first | (at_builtin; refine wpList_bytes17 rfl _ _ rfl _ (w.heap.size + 1) _ _ [10] HP0.out.bts HP0.out.size hl7 rfl _ rfl rfl ?_; refine Hid.out ?_))
          refine Nu.hid ?_
          intro x7 w7 qa qb
          have hh := (HP0.out.later ((Below.refl _ _).alloc (Nat.le_refl _) _)).grown qa qb
          have HB7 : Hid (PrS w true (some ⟨b, o, none⟩) eo n ca 0 ce x7 (L ++ [10]) w7) := Nu.hid (by first | exact hh | (simp only [List.append_assoc, List.nil_append, List.cons_append] at hh ⊢; exact hh))
          clear qa qb hh hl7
          clear v0 v1 v2 vf
          obtain ⟨v0, v1, v2, vf⟩ := HB7.out.cells
          go_wp2
          go_roundw
          case rel => exact ⟨k + 1, _, _, by omega, by go_num, rfl, HB7.out, by rw [HR.out, ← HQ.out]; try simp⟩
          case measure => simp [intOf]; omega
    · have hlti : ¬ ((k : Int) < (n : Int)) := by omega
      obtain rfl : k = n := by omega
      have hz : ls.drop k = [] := List.drop_eq_nil_of_le (by have := HM.out; omega)
      rw [hz] at HQ
      have hLT : L = T := by have := HQ.out; simpa using this
      subst hLT
      obtain ⟨g, vc, rfl, kc⟩ := HP0.out.conv (by
        rw [← HEQ.out]
        simp)
      clear hz
      obtain ⟨N, hN⟩ : ∃ N, L.length = N := ⟨_, rfl⟩
      have HN := Nu.hid hN
      have HKC := Nu.hid kc
      have HTL' := HTL.out
      rw [hN] at kc HTL' ⊢
      clear hN
      by_cases hbig : 33554432 < N
      · have hbi : (33554432 : Int) < (N : Int) := by omega
        clear kc
        go_wp2
        go_ret2
        exact ⟨.inl ⟨by have := HN.out; omega, rfl⟩, HP0.out.low⟩
      · have hbi : ¬ ((33554432 : Int) < (N : Int)) := by omega
        go_wp2
        go_ret2
        exact ⟨.inr ⟨by have := HN.out; omega, rfl⟩, HP0.out.low⟩
end Go.Proofs.YtfjgmbimapkabaaDoor
/-
  Functions of the library, by their contracts, laid at this program.
-/
namespace Go.Proofs
open Go.Shelf
def Tryd.laysM176_ren : Go.Shelf.Ren := ⟨fun | 176 => 46 | 249 => 50 | 288 => 52 | 283 => 56 | 284 => 57 | 285 => 58 | 286 => 59 | 129 => 62 | 317 => 61 | 318 => 63 | 319 => 64 | 320 => 65 | 337 => 70 | 338 => 71 | n => n, fun | 37 => 31 | 2 => 2 | 3 => 3 | 53 => 109 | 4 => 4 | 9 => 9 | 171 => 115 | 0 => 0 | 173 => 118 | 212 => 124 | 51 => 125 | 5 => 5 | 20 => 20 | 213 => 126 | 46 => 127 | 232 => 132 | 233 => 133 | n => n, fun | 17 => 0 | 18 => 1 | 19 => 2 | n => n⟩
theorem Tryd.laysM176 : Go.Proofs.LaysM.n176 Tryd.prog Tryd.laysM176_ren := {
  mixed := by kernel_rfl
  f129 := Tryd.func62.trans (congrArg some (by kernel_rfl))
  f176 := Tryd.func46.trans (congrArg some (by kernel_rfl))
  f249 := Tryd.func50.trans (congrArg some (by kernel_rfl))
  f283 := Tryd.func56.trans (congrArg some (by kernel_rfl))
  f284 := Tryd.func57.trans (congrArg some (by kernel_rfl))
  f285 := Tryd.func58.trans (congrArg some (by kernel_rfl))
  f286 := Tryd.func59.trans (congrArg some (by kernel_rfl))
  f288 := Tryd.func52.trans (congrArg some (by kernel_rfl))
  f317 := Tryd.func61.trans (congrArg some (by kernel_rfl))
  f318 := Tryd.func63.trans (congrArg some (by kernel_rfl))
  f319 := Tryd.func64.trans (congrArg some (by kernel_rfl))
  f320 := Tryd.func65.trans (congrArg some (by kernel_rfl))
  f337 := Tryd.func70.trans (congrArg some (by kernel_rfl))
  f338 := Tryd.func71.trans (congrArg some (by kernel_rfl))
  t0 := Tryd.underlying0
  a0 := Tryd.isAgg0
  z0 := Tryd.sizeOf0
  v0 := Tryd.zeroValue0
  t2 := Tryd.underlying2
  a2 := Tryd.isAgg2
  z2 := Tryd.sizeOf2
  v2 := Tryd.zeroValue2
  t3 := Tryd.underlying3
  a3 := Tryd.isAgg3
  z3 := Tryd.sizeOf3
  v3 := Tryd.zeroValue3
  t4 := Tryd.underlying4
  a4 := Tryd.isAgg4
  z4 := Tryd.sizeOf4
  v4 := Tryd.zeroValue4
  t5 := Tryd.underlying5
  a5 := Tryd.isAgg5
  z5 := Tryd.sizeOf5
  v5 := Tryd.zeroValue5
  t9 := Tryd.underlying9
  a9 := Tryd.isAgg9
  z9 := Tryd.sizeOf9
  v9 := Tryd.zeroValue9
  t20 := Tryd.underlying20
  a20 := Tryd.isAgg20
  z20 := Tryd.sizeOf20
  v20 := Tryd.zeroValue20
  t37 := Tryd.underlying31
  a37 := Tryd.isAgg31
  z37 := Tryd.sizeOf31
  v37 := Tryd.zeroValue31
  t46 := Tryd.underlying127
  a46 := Tryd.isAgg127
  z46 := Tryd.sizeOf127
  v46 := Tryd.zeroValue127
  t51 := Tryd.underlying125
  a51 := Tryd.isAgg125
  z51 := Tryd.sizeOf125
  v51 := Tryd.zeroValue125
  t53 := Tryd.underlying109
  a53 := Tryd.isAgg109
  z53 := Tryd.sizeOf109
  v53 := Tryd.zeroValue109
  t171 := Tryd.underlying115
  a171 := Tryd.isAgg115
  z171 := Tryd.sizeOf115
  v171 := Tryd.zeroValue115
  t173 := Tryd.underlying118
  a173 := Tryd.isAgg118
  z173 := Tryd.sizeOf118
  v173 := Tryd.zeroValue118
  t212 := Tryd.underlying124
  a212 := Tryd.isAgg124
  z212 := Tryd.sizeOf124
  v212 := Tryd.zeroValue124
  t213 := Tryd.underlying126
  a213 := Tryd.isAgg126
  z213 := Tryd.sizeOf126
  t232 := Tryd.underlying132
  a232 := Tryd.isAgg132
  z232 := Tryd.sizeOf132
  v232 := Tryd.zeroValue132
  t233 := Tryd.underlying133
  a233 := Tryd.isAgg133
  z233 := Tryd.sizeOf133
  v233 := Tryd.zeroValue133
  g17 := by kernel_rfl
  g18 := by kernel_rfl
  g19 := by kernel_rfl
  i0 := by kernel_rfl
  i2 := by kernel_rfl
  i3 := by kernel_rfl
  i4 := by kernel_rfl
  i5 := by kernel_rfl
  i9 := by kernel_rfl
  i20 := by kernel_rfl
  i37 := by kernel_rfl
  i46 := by kernel_rfl
  i51 := by kernel_rfl
  i53 := by kernel_rfl
  i171 := by kernel_rfl
  i173 := by kernel_rfl
  i212 := by kernel_rfl
  i232 := by kernel_rfl
  i233 := by kernel_rfl
  m17 := by kernel_rfl
  m18 := by kernel_rfl
  m19 := by kernel_rfl }
theorem Tryd.strconv_AppendInt (B n : Nat) (i : Int) (h0 : -9223372036854775808 ≤ i) (h1 : i ≤ 9223372036854775807) (sv : Value) (xs : List Value) (w : World) (hown : w.ownsRow B 5 1 sv n xs) (hBw : B ≤ w.heap.size) (hlim : n + 21 ≤ 140737488355328)
    (htab : Lib.TabBelow Tryd.prog B w "internal/strconv.uint64pow10" .u64 Lib.pow10Tab) :
    Calls Tryd.prog 46 #[sv, .int .i64 i, .int .i64 10] w fun e w' => ∃ v', e = .returned v' ∧ w'.ownsRow B 5 1 v' (n + (Lib.itoa i).length) (xs ++ Lib.byteCells (Lib.itoa i)) ∧ RowKit.Below B w w' ∧ Lib.OthersKept 5 none w w' := Any.strconv_AppendInt_10 Tryd.laysM176 B n i h0 h1 sv xs w hown hBw hlim htab
end Go.Proofs
