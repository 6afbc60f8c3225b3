import Derived.Test.YtodlejemkihjnaaDoorMg10
/-
  The document's own Parse: the walk.
-/
namespace Go.Proofs.YtodlejemkihjnaaDoor
open Go.RowKit

set_option maxRecDepth 100000 in
set_option maxHeartbeats 4000000 in
theorem rparse17_any {ao : Option Addr} {n cap : Nat} {g : Nat → Int} {w : World} (h : HasText w ao n g) (hn : n ≤ 4611686018427387904) :
    Calls Tryd.prog 8 #[.slice ao n cap] w (ParsP (Ce.parse (Ce.atF n g) n) w) := by
  obtain ⟨i1, hi1, hy0, hy1, hy2⟩ := info_parts Tryd.infoRow
  by_cases c0 : 33554432 < n
  · have hR : Ce.parse (Ce.atF n g) n = (Ce.zero, 33554432, 10) := by unfold Ce.parse; rw [if_pos c0]
    have c0i : (33554432 : Int) < (n : Int) := by omega
    rw [hR]
    go_enter Tryd.func8, Tryd.ntmps8
    go_wp2
    refine bodyPost_ret (v := .tuple #[.agg #[.bool false, .slice none 0 0, .slice none 0 0], .int .i64 33554432, .int .i64 10]) (by simp [results, Tryd.results8, go_sem]) rfl ⟨?_, _, rfl, certAt_zero _ _⟩
    exact (Below.refl _ _).alloc (Nat.le_refl _) _
  · have c0i : ¬ ((33554432 : Int) < (n : Int)) := by omega
    obtain ⟨hA, hY, hN⟩ := h.eqs (cap := cap) (by omega)
    obtain ⟨hL, hE⟩ := h.lists (cap := cap) (by omega)
    have hT := h.txt
    obtain ⟨B, hB⟩ : ∃ B, Ce.atF n g = B := ⟨_, rfl⟩
    rw [hB] at hA hY hN hT hL hE ⊢
    obtain ⟨R, hR⟩ : ∃ R, Ce.parse B n = R := ⟨_, rfl⟩
    rw [hR]
    unfold Ce.parse at hR
    rw [if_neg c0] at hR
    obtain ⟨x0, hx0⟩ : ∃ x, B 0 = x := ⟨_, rfl⟩
    have HX0 : Hid (∀ W, Below w.heap.size w W → Calls Tryd.prog 14 #[.slice ao n cap, .int .i64 0] W fun e w' => e = .returned (.int .i64 x0) ∧ w' = W) := fun W hW => by rw [← hx0]; exact hA W hW 0 (by omega)
    rw [hx0] at hR
    have hb1 : Below w.heap.size w (w.alloc (.cells #[.bool false, .slice none 0 0, .slice none 0 0] 25)) := (Below.refl _ _).alloc (Nat.le_refl _) _
    have hb2 : ∀ b, Below w.heap.size w ((w.alloc (.cells #[.bool false, .slice none 0 0, .slice none 0 0] 25)).alloc (.cells #[.bool b, .slice none 0 0, .slice none 0 0] 25)) := fun b => ((Below.refl _ _).alloc (Nat.le_refl _) _).alloc (by simp) _
    have HB1 := Nu.hid hb1
    have HB2 := Nu.hid hb2
    have HA := Nu.hid hA
    have HY := Nu.hid hY
    have HN := Nu.hid hN
    have HT := Nu.hid hT
    have HL := Nu.hid hL
    have HE := Nu.hid hE
    clear h hA hY hN hT hL hE hb1 hb2 hB
    by_cases c1 : x0 ≠ 112 ∧ x0 ≠ 110
    · rw [if_pos c1] at hR
      have e1 : (x0 == 112) = false := by simp [c1.1]
      have e2 : (x0 != 110) = true := by simp [c1.2]
      have HR := Nu.hid hR
      clear hR c1 hx0
      go_enter Tryd.func8, Tryd.ntmps8
      go_wp2_with (first | (go_at_call 14; with_reducible refine (HX0.out _ HB1.out).mono ?_; rintro e w' ⟨rfl, rfl⟩) | (go_at_call 14; with_reducible refine (HX0.out _ (HB2.out false)).mono ?_; rintro e w' ⟨rfl, rfl⟩))
      refine bodyPost_ret (v := .tuple #[.agg #[.bool false, .slice none 0 0, .slice none 0 0], .int .i64 0, .int .i64 170]) (by simp [results, Tryd.results8, go_sem]) rfl (parsP_err HR.out (HB2.out false))
    · rw [if_neg c1] at hR
      have h0 : 0 < n := Ce.in_of HT.out hx0 (by omega)
      obtain ⟨x1, hx1⟩ : ∃ x, B 1 = x := ⟨_, rfl⟩
      have HX1 : Hid (∀ W, Below w.heap.size w W → Calls Tryd.prog 14 #[.slice ao n cap, .int .i64 1] W fun e w' => e = .returned (.int .i64 x1) ∧ w' = W) := fun W hW => by rw [← hx1]; exact HA.out W hW 1 (by omega)
      rw [hx1] at hR
      by_cases hp : x0 = 112
      · have e1 : (x0 == 112) = true := by simp [hp]
        rw [show decide (x0 = 112) = true from decide_eq_true hp] at hR
        clear c1 hp hx0
        rw [show Ce.most true = 1048576 from rfl] at hR
        by_cases c2 : x1 ≠ 32
        · rw [if_pos c2] at hR
          have e3 : (x1 != 32) = true := by simp [c2]
          clear c2 hx1
          have HR := Nu.hid hR
          clear hR
          go_enter Tryd.func8, Tryd.ntmps8
          go_wp2_with (first | (go_at_call 14; with_reducible refine (HX0.out _ HB1.out).mono ?_; rintro e w' ⟨rfl, rfl⟩) | (go_at_call 14; with_reducible refine (HX0.out _ (HB2.out true)).mono ?_; rintro e w' ⟨rfl, rfl⟩) | (go_at_call 14; with_reducible refine (HX1.out _ (HB2.out true)).mono ?_; rintro e w' ⟨rfl, rfl⟩))
          refine bodyPost_ret (v := .tuple #[.agg #[.bool false, .slice none 0 0, .slice none 0 0], .int .i64 1, .int .i64 170]) (by simp [results, Tryd.results8, go_sem]) rfl (parsP_err HR.out (HB2.out true))
        · rw [if_neg c2] at hR
          obtain rfl : x1 = 32 := Classical.byContradiction c2
          have e3 : ((32 : Int) != 32) = false := rfl
          have hn1 := Ce.in_of HT.out hx1 (by decide)
          clear c2 hx1
          cases hm : Ce.num B n 2 with
          | none =>
            rw [hm] at hR
            obtain ⟨v, k, hc⟩ := HN.out 2 (by omega) hm
            have HC : Hid (∀ W, Below w.heap.size w W → Calls Tryd.prog 15 #[.slice ao n cap, .int .i64 2] W fun e w' => e = .returned (.tuple #[.int .i64 v, .int .i64 k, .bool false]) ∧ w' = W) := hc
            clear hc hm
            have HR := Nu.hid hR
            clear hR
            go_enter Tryd.func8, Tryd.ntmps8
            go_wp2_with (first | (go_at_call 14; with_reducible refine (HX0.out _ HB1.out).mono ?_; rintro e w' ⟨rfl, rfl⟩) | (go_at_call 14; with_reducible refine (HX0.out _ (HB2.out true)).mono ?_; rintro e w' ⟨rfl, rfl⟩) | (go_at_call 14; with_reducible refine (HX1.out _ (HB2.out true)).mono ?_; rintro e w' ⟨rfl, rfl⟩) | (go_at_call 15; with_reducible refine (HC.out _ (HB2.out true)).mono ?_; rintro e w' ⟨rfl, rfl⟩))
            refine bodyPost_ret (v := .tuple #[.agg #[.bool false, .slice none 0 0, .slice none 0 0], .int .i64 2, .int .i64 170]) (by simp [results, Tryd.results8, go_sem]) rfl (parsP_err HR.out (HB2.out true))
          | some q =>
            obtain ⟨kz, i⟩ := q
            rw [hm] at hR
            dsimp only at hR
            have HC : Hid (∀ W, Below w.heap.size w W → Calls Tryd.prog 15 #[.slice ao n cap, .int .i64 2] W fun e w' => e = .returned (.tuple #[.int .i64 kz, .int .i64 (i : Int), .bool true]) ∧ w' = W) := fun W hW => HY.out W hW 2 kz i (by omega) hm
            obtain ⟨hk0, -, -, hin⟩ := Ce.num_is (by omega) hm
            obtain ⟨K, rfl⟩ : ∃ K : Nat, kz = (K : Int) := ⟨kz.toNat, by have := hk0.1; omega⟩
            clear hk0 hm
            by_cases c3 : 1048576 < (K : Int)
            · rw [if_pos c3] at hR
              have HR := Nu.hid hR
              clear hR
              go_enter Tryd.func8, Tryd.ntmps8
              go_wp2_with (first | (go_at_call 14; with_reducible refine (HX0.out _ HB1.out).mono ?_; rintro e w' ⟨rfl, rfl⟩) | (go_at_call 14; with_reducible refine (HX0.out _ (HB2.out true)).mono ?_; rintro e w' ⟨rfl, rfl⟩) | (go_at_call 14; with_reducible refine (HX1.out _ (HB2.out true)).mono ?_; rintro e w' ⟨rfl, rfl⟩) | (go_at_call 15; with_reducible refine (HC.out _ (HB2.out true)).mono ?_; rintro e w' ⟨rfl, rfl⟩))
              refine bodyPost_ret (v := .tuple #[.agg #[.bool false, .slice none 0 0, .slice none 0 0], .int .i64 2, .int .i64 170]) (by simp [results, Tryd.results8, go_sem]) rfl (parsP_err HR.out (HB2.out true))
            · rw [if_neg c3] at hR
              obtain ⟨x2, hx2⟩ : ∃ x, B i = x := ⟨_, rfl⟩
              have HX2 : Hid (∀ W, Below w.heap.size w W → Calls Tryd.prog 14 #[.slice ao n cap, .int .i64 (i : Int)] W fun e w' => e = .returned (.int .i64 x2) ∧ w' = W) := fun W hW => by rw [← hx2]; exact HA.out W hW i hin
              rw [hx2] at hR
              by_cases c4 : x2 ≠ 10
              · rw [if_pos c4] at hR
                have e4 : (x2 != 10) = true := by simp [c4]
                clear c4 hx2
                have HR := Nu.hid hR
                clear hR
                go_enter Tryd.func8, Tryd.ntmps8
                go_wp2_with (first | (go_at_call 14; with_reducible refine (HX0.out _ HB1.out).mono ?_; rintro e w' ⟨rfl, rfl⟩) | (go_at_call 14; with_reducible refine (HX0.out _ (HB2.out true)).mono ?_; rintro e w' ⟨rfl, rfl⟩) | (go_at_call 14; with_reducible refine (HX1.out _ (HB2.out true)).mono ?_; rintro e w' ⟨rfl, rfl⟩) | (go_at_call 15; with_reducible refine (HC.out _ (HB2.out true)).mono ?_; rintro e w' ⟨rfl, rfl⟩) | (go_at_call 14; with_reducible refine (HX2.out _ (HB2.out true)).mono ?_; rintro e w' ⟨rfl, rfl⟩))
                refine bodyPost_ret (v := .tuple #[.agg #[.bool false, .slice none 0 0, .slice none 0 0], .int .i64 (i : Int), .int .i64 170]) (by simp [results, Tryd.results8, go_sem]) rfl (parsP_err HR.out (HB2.out true))
              · rw [if_neg c4] at hR
                obtain rfl : x2 = 10 := Classical.byContradiction c4
                have e4 : ((10 : Int) != 10) = false := rfl
                have hin1 := Ce.in_of HT.out hx2 (by decide)
                clear c4 hx2
                rw [show ((K : Nat) : Int).toNat = K by omega] at hR
                obtain ⟨Rb, hRb⟩ : ∃ Rb, Ce.lists B n K [] (i + 1) = Rb := ⟨_, rfl⟩
                have hfin : (∀ e, Rb = .error e → (Ce.zero, (e : Int), (170 : Int)) = R) ∧ ∀ ls j, Rb = .ok (ls, j) → (if j < n then (Ce.zero, (j : Int), (170 : Int)) else ((⟨true, ls, []⟩ : Ce.Cert), (0 : Int), (0 : Int))) = R := by
                  unfold Ce.bdy at hR
                  rw [if_pos rfl, hRb] at hR
                  exact ⟨fun e he => by rw [he] at hR; exact hR, fun ls j he => by rw [he] at hR; exact hR⟩
                have HF := Nu.hid hfin
                have HRb := Nu.hid hRb
                have HS := Nu.hid (PaS.start (w := w) true)
                have c3' : ¬ ((1048576 : Int) < (K : Int)) := c3
                clear hR hfin hRb c3
                go_enter Tryd.func8, Tryd.ntmps8
                go_wp2_with (first | (go_at_call 14; with_reducible refine (HX0.out _ HB1.out).mono ?_; rintro e w' ⟨rfl, rfl⟩) | (go_at_call 14; with_reducible refine (HX0.out _ (HB2.out true)).mono ?_; rintro e w' ⟨rfl, rfl⟩) | (go_at_call 14; with_reducible refine (HX1.out _ (HB2.out true)).mono ?_; rintro e w' ⟨rfl, rfl⟩) | (go_at_call 15; with_reducible refine (HC.out _ (HB2.out true)).mono ?_; rintro e w' ⟨rfl, rfl⟩) | (go_at_call 14; with_reducible refine (HX2.out _ (HB2.out true)).mono ?_; rintro e w' ⟨rfl, rfl⟩))
                go_loopw [8, 11] (fun iv nv wr => ∃ (j m : Nat) (va : Value) (vs : List Value) (ls : List (List Int)), iv = .int .i64 (j : Int) ∧ nv = .int .i64 (m : Int) ∧ m ≤ K ∧ j ≤ n ∧ ls.length = m ∧ PaS w true va (.slice none 0 0) vs ls [] (-1) 0 wr ∧ Ce.lists B n (K - m) ls j = Rb) (fun _ nv _ => K - (intOf nv).toNat)
                case atStart => exact ⟨i + 1, 0, _, [], [], by first | rfl | go_num, rfl, Nat.zero_le _, by omega, rfl, HS.out, HRb.out⟩
                case round =>
                  obtain ⟨j, m, va, vs, ls, rfl, rfl, hm, hj, hlm, hS, hRj⟩ := hrel
                  obtain ⟨vo, vc, rfl⟩ := row_shape hS.rows
                  have HLM := Nu.hid hlm
                  clear hlm
                  obtain ⟨v0, v1, v2, vf⟩ := three_cells17 hS.box
                  obtain ⟨u0, u1, u2, uf⟩ := three_cells17 hS.res
                  have HP := Nu.hid hS
                  by_cases hlt : m < K
                  · have hlti : (m : Int) < (K : Int) := by omega
                    obtain ⟨d, hd⟩ : ∃ d, K - m = d + 1 := ⟨K - m - 1, by omega⟩
                    rw [hd] at hRj
                    have hRj : (match Ce.lst B n j with | .error e => .error e | .ok (l, j') => Ce.lists B n d (ls ++ [l]) j') = Rb := hRj
                    have hc := HL.out wr hS.low j hj
                    cases hl : Ce.lst B n j with
                    | error q =>
                      rw [hl] at hRj hc
                      have HC2 : Hid (Calls Tryd.prog 16 #[.slice ao n cap, .int .i64 (j : Int)] wr fun e w' => e = .returned (.tuple #[.slice none 0 0, .int .i64 0, .int .i64 ((q : Nat) : Int)]) ∧ Below wr.heap.size wr w') := hc.mono (by
                        rintro e w' ⟨hb, ⟨l, k, v, h1, -⟩ | ⟨q', h1, h2⟩⟩
                        · cases h1
                        · cases h1; exact ⟨h2, hb⟩)
                      have HQ := Nu.hid (HF.out.1 q hRj.symm)
                      clear hRj hc hl hS hd
                      go_wp2_with (go_at_call 16; refine HC2.out.mono ?_; rintro e w1 ⟨rfl, hb⟩; have HP1 := Nu.hid (HP.out.later hb); clear hb v0 v1 v2 vf u0 u1 u2 uf; obtain ⟨u0, u1, u2, uf⟩ := three_cells17 HP1.out.res)
                      obtain ⟨r0, r1, r2, -⟩ := three_cells17 (three_set17 HP1.out.res (.bool false) (.slice none 0 0) (.slice none 0 0))
                      refine bodyPost_ret (v := .tuple #[.agg #[.bool false, .slice none 0 0, .slice none 0 0], .int .i64 ((q : Nat) : Int), .int .i64 170]) (by simp [results, Tryd.results8, go_sem, r0, r1, r2]) rfl (parsP_err HQ.out (HP1.out.out _ _ _).1)
                    | ok ql =>
                      obtain ⟨l, j2⟩ := ql
                      rw [hl] at hRj hc
                      dsimp only at hRj
                      obtain ⟨-, -, -, hj2⟩ := Ce.lst_is HT.out hj hl
                      have HC2 : Hid (Calls Tryd.prog 16 #[.slice ao n cap, .int .i64 (j : Int)] wr fun e w' => ∃ xa xc, e = .returned (.tuple #[.slice xa l.length xc, .int .i64 (j2 : Int), .int .i64 (-1)]) ∧ OwnZ w' wr.heap.size (.slice xa l.length xc) l ∧ Below wr.heap.size wr w') := hc.mono (by
                        rintro e w' ⟨hb, ⟨l', k', v, h1, h2, h3⟩ | ⟨q', h1, h2⟩⟩
                        · cases h1
                          obtain ⟨xa, xc, rfl, -, -⟩ := h3.form
                          exact ⟨xa, xc, h2, h3, hb⟩
                        · cases h1)
                      have HQ : Hid (Ce.lists B n (K - (m + 1)) (ls ++ [l]) j2 = Rb) := by rw [show K - (m + 1) = d by omega]; exact hRj
                      clear hRj hc hl hS hd
                      have hs3 : w.heap.size + 3 ≤ wr.heap.size := by have := lt_of_block HP.out.last; have := HP.out.low.size; omega
                      have hll : ls.length ≤ 4398046511000 := by have := HLM.out; omega
                      go_wp2_with (first
                        | (go_at_call 16; refine HC2.out.mono ?_; rintro e w1 ⟨xa, xc, rfl, hx, hb⟩; have HP1 := Nu.hid (HP.out.later hb); have HX := Nu.hid hx; have HB := Nu.hid hb; clear hx hb v0 v1 v2 vf u0 u1 u2 uf; obtain ⟨v0, v1, v2, vf⟩ := three_cells17 HP1.out.box)
                        | (at_builtin; refine wpList_pushR17 rfl _ _ rfl _ (w.heap.size + 3) (.slice vo ls.length vc) vs ls.length xa l.length xc HP1.out.rows.outer (by have := HB.out.size; omega) hll rfl (by first | rfl | exact (congrArg (fun z => Value.slice (some ⟨z, 0, none⟩) 1 1) (by simp))) ?_; refine Hid.out ?_))
                      refine Nu.hid ?_
                      intro v' w2 q1 q2 q3
                      clear v0 v1 v2 vf
                      have hown : OwnZ w1 (w.heap.size + 3) (.slice xa l.length xc) l := OwnZ.lower HX.out hs3
                      have hxb : ∀ b, (Value.slice xa l.length xc).ownBlock = some b → wr.heap.size ≤ b := fun b hb => (World.ownsRow.lt HX.out b hb).1
                      have hnew : ∀ (y : Value) (k : List Int) (b : Nat), OwnZ wr (w.heap.size + 3) y k → y.ownBlock = some b → (Value.slice xa l.length xc).ownBlock ≠ some b := fun y k b ho hb hc => by
                        have := (World.ownsRow.lt ho b hb).2
                        have := hxb b hc
                        omega
                      obtain ⟨hN, hO2, hO3⟩ := HP1.out.pushL hown (fun u y b hy hb => by
                        obtain ⟨k, hk⟩ := HP.out.rows.at hy
                        exact hnew y k b (HP.out.rows.row u y k hy hk) hb) (fun b hb hc => by
                        have := (World.ownsRow.lt HP.out.rows.outer b hb).2
                        have := hxb b hc
                        omega) q1 q2 q3
                      obtain ⟨vo', vc', rfl⟩ := row_shape hN.rows
                      rw [List.length_append, List.length_singleton] at hN
                      have HN := Nu.hid hN
                      clear hN hown hxb hnew q1 q2 q3
                      go_wp2
                      go_roundw
                      case rel => exact ⟨j2, m + 1, _, _, ls ++ [l], rfl, by go_num, by omega, hj2, by rw [List.length_append, HLM.out]; rfl, HN.out, HQ.out⟩
                      case measure => simp [intOf]; omega
                  · have hlti : ¬ ((m : Int) < (K : Int)) := by omega
                    obtain rfl : m = K := by omega
                    rw [Nat.sub_self] at hRj
                    have hQ := HF.out.2 ls j hRj.symm
                    by_cases hjn : j < n
                    · have hjni : (j : Int) < (n : Int) := by omega
                      rw [if_pos hjn] at hQ
                      have HQ := Nu.hid hQ
                      obtain ⟨r0, r1, r2, -⟩ := three_cells17 (three_set17 hS.res (.bool false) (.slice none 0 0) (.slice none 0 0))
                      clear hQ hRj hS
                      go_wp2
                      refine bodyPost_ret (v := .tuple #[.agg #[.bool false, .slice none 0 0, .slice none 0 0], .int .i64 (j : Int), .int .i64 170]) (by simp [results, Tryd.results8, go_sem, r0, r1, r2]) rfl (parsP_err HQ.out (HP.out.out _ _ _).1)
                    · have hjni : ¬ ((j : Int) < (n : Int)) := by omega
                      rw [if_neg hjn] at hQ
                      have HQ := Nu.hid hQ
                      obtain ⟨r0, r1, r2, -⟩ := three_cells17 (three_set17 hS.res (.bool true) (.slice vo ls.length vc) (.slice none 0 0))
                      obtain ⟨q1, q2, q3⟩ := hS.out (.bool true) (.slice vo ls.length vc) (.slice none 0 0)
                      have H1 := Nu.hid q1
                      have H2 := Nu.hid q2
                      have H3 := Nu.hid q3
                      clear hQ hRj hS q1 q2 q3
                      go_wp2
                      refine bodyPost_ret (v := .tuple #[.agg #[.bool true, .slice vo ls.length vc, .slice none 0 0], .int .i64 0, .int .i64 0]) (by simp [results, Tryd.results8, go_sem, r0, r1, r2]) rfl ?_
                      rw [← HQ.out]
                      exact ⟨H1.out, _, rfl, _, _, vs, rfl, H2.out, H3.out⟩
      · have e1 : (x0 == 112) = false := by simp [hp]
        have e2 : (x0 != 110) = false := by
          have : x0 = 110 := by omega
          simp [this]
        rw [show decide (x0 = 112) = false from decide_eq_false hp] at hR
        clear c1 hp hx0
        rw [show Ce.most false = 4194304 from rfl] at hR
        by_cases c2 : x1 ≠ 32
        · rw [if_pos c2] at hR
          have e3 : (x1 != 32) = true := by simp [c2]
          clear c2 hx1
          have HR := Nu.hid hR
          clear hR
          go_enter Tryd.func8, Tryd.ntmps8
          go_wp2_with (first | (go_at_call 14; with_reducible refine (HX0.out _ HB1.out).mono ?_; rintro e w' ⟨rfl, rfl⟩) | (go_at_call 14; with_reducible refine (HX0.out _ (HB2.out false)).mono ?_; rintro e w' ⟨rfl, rfl⟩) | (go_at_call 14; with_reducible refine (HX1.out _ (HB2.out false)).mono ?_; rintro e w' ⟨rfl, rfl⟩))
          refine bodyPost_ret (v := .tuple #[.agg #[.bool false, .slice none 0 0, .slice none 0 0], .int .i64 1, .int .i64 170]) (by simp [results, Tryd.results8, go_sem]) rfl (parsP_err HR.out (HB2.out false))
        · rw [if_neg c2] at hR
          obtain rfl : x1 = 32 := Classical.byContradiction c2
          have e3 : ((32 : Int) != 32) = false := rfl
          have hn1 := Ce.in_of HT.out hx1 (by decide)
          clear c2 hx1
          cases hm : Ce.num B n 2 with
          | none =>
            rw [hm] at hR
            obtain ⟨v, k, hc⟩ := HN.out 2 (by omega) hm
            have HC : Hid (∀ W, Below w.heap.size w W → Calls Tryd.prog 15 #[.slice ao n cap, .int .i64 2] W fun e w' => e = .returned (.tuple #[.int .i64 v, .int .i64 k, .bool false]) ∧ w' = W) := hc
            clear hc hm
            have HR := Nu.hid hR
            clear hR
            go_enter Tryd.func8, Tryd.ntmps8
            go_wp2_with (first | (go_at_call 14; with_reducible refine (HX0.out _ HB1.out).mono ?_; rintro e w' ⟨rfl, rfl⟩) | (go_at_call 14; with_reducible refine (HX0.out _ (HB2.out false)).mono ?_; rintro e w' ⟨rfl, rfl⟩) | (go_at_call 14; with_reducible refine (HX1.out _ (HB2.out false)).mono ?_; rintro e w' ⟨rfl, rfl⟩) | (go_at_call 15; with_reducible refine (HC.out _ (HB2.out false)).mono ?_; rintro e w' ⟨rfl, rfl⟩))
            refine bodyPost_ret (v := .tuple #[.agg #[.bool false, .slice none 0 0, .slice none 0 0], .int .i64 2, .int .i64 170]) (by simp [results, Tryd.results8, go_sem]) rfl (parsP_err HR.out (HB2.out false))
          | some q =>
            obtain ⟨kz, i⟩ := q
            rw [hm] at hR
            dsimp only at hR
            have HC : Hid (∀ W, Below w.heap.size w W → Calls Tryd.prog 15 #[.slice ao n cap, .int .i64 2] W fun e w' => e = .returned (.tuple #[.int .i64 kz, .int .i64 (i : Int), .bool true]) ∧ w' = W) := fun W hW => HY.out W hW 2 kz i (by omega) hm
            obtain ⟨hk0, -, -, hin⟩ := Ce.num_is (by omega) hm
            obtain ⟨K, rfl⟩ : ∃ K : Nat, kz = (K : Int) := ⟨kz.toNat, by have := hk0.1; omega⟩
            clear hk0 hm
            by_cases c3 : 4194304 < (K : Int)
            · rw [if_pos c3] at hR
              have HR := Nu.hid hR
              clear hR
              go_enter Tryd.func8, Tryd.ntmps8
              go_wp2_with (first | (go_at_call 14; with_reducible refine (HX0.out _ HB1.out).mono ?_; rintro e w' ⟨rfl, rfl⟩) | (go_at_call 14; with_reducible refine (HX0.out _ (HB2.out false)).mono ?_; rintro e w' ⟨rfl, rfl⟩) | (go_at_call 14; with_reducible refine (HX1.out _ (HB2.out false)).mono ?_; rintro e w' ⟨rfl, rfl⟩) | (go_at_call 15; with_reducible refine (HC.out _ (HB2.out false)).mono ?_; rintro e w' ⟨rfl, rfl⟩))
              refine bodyPost_ret (v := .tuple #[.agg #[.bool false, .slice none 0 0, .slice none 0 0], .int .i64 2, .int .i64 170]) (by simp [results, Tryd.results8, go_sem]) rfl (parsP_err HR.out (HB2.out false))
            · rw [if_neg c3] at hR
              obtain ⟨x2, hx2⟩ : ∃ x, B i = x := ⟨_, rfl⟩
              have HX2 : Hid (∀ W, Below w.heap.size w W → Calls Tryd.prog 14 #[.slice ao n cap, .int .i64 (i : Int)] W fun e w' => e = .returned (.int .i64 x2) ∧ w' = W) := fun W hW => by rw [← hx2]; exact HA.out W hW i hin
              rw [hx2] at hR
              by_cases c4 : x2 ≠ 10
              · rw [if_pos c4] at hR
                have e4 : (x2 != 10) = true := by simp [c4]
                clear c4 hx2
                have HR := Nu.hid hR
                clear hR
                go_enter Tryd.func8, Tryd.ntmps8
                go_wp2_with (first | (go_at_call 14; with_reducible refine (HX0.out _ HB1.out).mono ?_; rintro e w' ⟨rfl, rfl⟩) | (go_at_call 14; with_reducible refine (HX0.out _ (HB2.out false)).mono ?_; rintro e w' ⟨rfl, rfl⟩) | (go_at_call 14; with_reducible refine (HX1.out _ (HB2.out false)).mono ?_; rintro e w' ⟨rfl, rfl⟩) | (go_at_call 15; with_reducible refine (HC.out _ (HB2.out false)).mono ?_; rintro e w' ⟨rfl, rfl⟩) | (go_at_call 14; with_reducible refine (HX2.out _ (HB2.out false)).mono ?_; rintro e w' ⟨rfl, rfl⟩))
                refine bodyPost_ret (v := .tuple #[.agg #[.bool false, .slice none 0 0, .slice none 0 0], .int .i64 (i : Int), .int .i64 170]) (by simp [results, Tryd.results8, go_sem]) rfl (parsP_err HR.out (HB2.out false))
              · rw [if_neg c4] at hR
                obtain rfl : x2 = 10 := Classical.byContradiction c4
                have e4 : ((10 : Int) != 10) = false := rfl
                have hin1 := Ce.in_of HT.out hx2 (by decide)
                clear c4 hx2
                rw [show ((K : Nat) : Int).toNat = K by omega] at hR
                obtain ⟨Rb, hRb⟩ : ∃ Rb, Ce.edges B n K [] (-1, 0) (i + 1) = Rb := ⟨_, rfl⟩
                have hfin : (∀ e, Rb = .error e → (Ce.zero, (e : Int), (170 : Int)) = R) ∧ ∀ es j, Rb = .ok (es, j) → (if j < n then (Ce.zero, (j : Int), (170 : Int)) else ((⟨false, [], es⟩ : Ce.Cert), (0 : Int), (0 : Int))) = R := by
                  unfold Ce.bdy at hR
                  rw [if_neg (by simp), hRb] at hR
                  exact ⟨fun e he => by rw [he] at hR; exact hR, fun ls j he => by rw [he] at hR; exact hR⟩
                have HF := Nu.hid hfin
                have HRb := Nu.hid hRb
                have HS := Nu.hid (PaS.start (w := w) false)
                have c3' : ¬ ((4194304 : Int) < (K : Int)) := c3
                clear hR hfin hRb c3
                go_enter Tryd.func8, Tryd.ntmps8
                go_wp2_with (first | (go_at_call 14; with_reducible refine (HX0.out _ HB1.out).mono ?_; rintro e w' ⟨rfl, rfl⟩) | (go_at_call 14; with_reducible refine (HX0.out _ (HB2.out false)).mono ?_; rintro e w' ⟨rfl, rfl⟩) | (go_at_call 14; with_reducible refine (HX1.out _ (HB2.out false)).mono ?_; rintro e w' ⟨rfl, rfl⟩) | (go_at_call 15; with_reducible refine (HC.out _ (HB2.out false)).mono ?_; rintro e w' ⟨rfl, rfl⟩) | (go_at_call 14; with_reducible refine (HX2.out _ (HB2.out false)).mono ?_; rintro e w' ⟨rfl, rfl⟩))
                go_loopw [8, 11] (fun iv nv wr => ∃ (j m : Nat) (ve : Value) (es : List (Int × Int)) (la lb : Int), iv = .int .i64 (j : Int) ∧ nv = .int .i64 (m : Int) ∧ m ≤ K ∧ j ≤ n ∧ es.length = m ∧ PaS w false (.slice none 0 0) ve [] [] es la lb wr ∧ Ce.edges B n (K - m) es (la, lb) j = Rb) (fun _ nv _ => K - (intOf nv).toNat)
                case atStart => exact ⟨i + 1, 0, _, [], -1, 0, by first | rfl | go_num, rfl, Nat.zero_le _, by omega, rfl, HS.out, HRb.out⟩
                case round =>
                  obtain ⟨j, m, ve, es, la, lb, rfl, rfl, hm, hj, hlm, hS, hRj⟩ := hrel
                  obtain ⟨vo, vc, rfl, -, -, -, -⟩ := hS.edges.form
                  have HLM := Nu.hid hlm
                  clear hlm
                  obtain ⟨v0, v1, v2, vf⟩ := three_cells17 hS.box
                  obtain ⟨u0, u1, u2, uf⟩ := three_cells17 hS.res
                  obtain ⟨l0, l1, lf⟩ := two_cells17 hS.last
                  have HP := Nu.hid hS
                  by_cases hlt : m < K
                  · have hlti : (m : Int) < (K : Int) := by omega
                    obtain ⟨d, hd⟩ : ∃ d, K - m = d + 1 := ⟨K - m - 1, by omega⟩
                    rw [hd] at hRj
                    have hRj : (match Ce.edg B n j (la, lb) with | .error e => .error e | .ok (p, j') => Ce.edges B n d (es ++ [p]) p j') = Rb := hRj
                    have hc := HE.out wr hS.low j la lb hj
                    cases hl : Ce.edg B n j (la, lb) with
                    | error q =>
                      rw [hl] at hRj hc
                      have HC2 : Hid (Calls Tryd.prog 17 #[.slice ao n cap, .int .i64 (j : Int), .agg #[.int .i64 la, .int .i64 lb]] wr fun e w' => e = .returned (.tuple #[.agg #[.int .i64 0, .int .i64 0], .int .i64 0, .int .i64 ((q : Nat) : Int)]) ∧ Below wr.heap.size wr w') := hc.mono (by
                        rintro e w' ⟨hb, ⟨l, k, h1, -⟩ | ⟨q', h1, h2⟩⟩
                        · cases h1
                        · cases h1; exact ⟨h2, hb⟩)
                      have HQ := Nu.hid (HF.out.1 q hRj.symm)
                      clear hRj hc hl hS hd
                      go_wp2_with (go_at_call 17; refine HC2.out.mono ?_; rintro e w1 ⟨rfl, hb⟩; have HP1 := Nu.hid ((HP.out.later hb).later ((Below.refl _ _).alloc (Nat.le_refl _) (.cells #[.int .i64 0, .int .i64 0] 41))); clear hb v0 v1 v2 vf u0 u1 u2 uf l0 l1 lf; obtain ⟨u0, u1, u2, uf⟩ := three_cells17 HP1.out.res)
                      obtain ⟨r0, r1, r2, -⟩ := three_cells17 (three_set17 HP1.out.res (.bool false) (.slice none 0 0) (.slice none 0 0))
                      refine bodyPost_ret (v := .tuple #[.agg #[.bool false, .slice none 0 0, .slice none 0 0], .int .i64 ((q : Nat) : Int), .int .i64 170]) (by simp [results, Tryd.results8, go_sem, r0, r1, r2]) rfl (parsP_err HQ.out (HP1.out.out _ _ _).1)
                    | ok ql =>
                      obtain ⟨⟨p1, p2⟩, j2⟩ := ql
                      rw [hl] at hRj hc
                      dsimp only at hRj
                      obtain ⟨-, -, -, -, hj2⟩ := Ce.edg_is HT.out hj hl
                      have HC2 : Hid (Calls Tryd.prog 17 #[.slice ao n cap, .int .i64 (j : Int), .agg #[.int .i64 la, .int .i64 lb]] wr fun e w' => e = .returned (.tuple #[.agg #[.int .i64 p1, .int .i64 p2], .int .i64 (j2 : Int), .int .i64 (-1)]) ∧ Below wr.heap.size wr w') := hc.mono (by
                        rintro e w' ⟨hb, ⟨p', k', h1, h2⟩ | ⟨q', h1, h2⟩⟩
                        · cases h1
                          exact ⟨h2, hb⟩
                        · cases h1)
                      have HQ : Hid (Ce.edges B n (K - (m + 1)) (es ++ [(p1, p2)]) (p1, p2) j2 = Rb) := by rw [show K - (m + 1) = d by omega]; exact hRj
                      clear hRj hc hl hS hd
                      have hsw := HP.out.low.size
                      have hll : es.length ≤ 8796093022000 := by have := HLM.out; omega
                      go_wp2_with (first
                        | (go_at_call 17; refine HC2.out.mono ?_; rintro e w1 ⟨rfl, hb⟩; have HP0 := Nu.hid (HP.out.later hb); have hP1 := HP0.out.later ((Below.refl _ _).alloc (Nat.le_refl _) (.cells #[.int .i64 p1, .int .i64 p2] 41)); have HB := Nu.hid hb; have HP1 := Nu.hid hP1; clear hb v0 v1 v2 vf u0 u1 u2 uf l0 l1 lf hP1; obtain ⟨v0, v1, v2, vf⟩ := three_cells17 HP1.out.box)
                        | (at_builtin; refine wpList_pushE17 rfl _ _ rfl _ (w.heap.size + 3) (.slice vo es.length vc) es p1 p2 HP1.out.edges (by have := lt_of_block HP1.out.last; omega) hll rfl (by first | rfl | (simp only [size_one]; rfl) | (rw [World.size_alloc]; rfl)) ?_; refine Hid.out ?_))
                      refine Nu.hid ?_
                      intro v' w2 q1 q2
                      clear v0 v1 v2 vf
                      have hz := heap_alloc_new w1 (.cells #[.int .i64 p1, .int .i64 p2] 41)
                      have hfarz : some w1.heap.size ≠ (Value.slice vo es.length vc).ownBlock := fun e => by
                        have := (World.ownsRow.lt HP0.out.edges _ e.symm).2
                        omega
                      have hzU := (Below.heap_alloc (w1.alloc (.cells #[.int .i64 p1, .int .i64 p2] 41)) (.cells #[.int .i64 p1, .int .i64 p2] 41) w1.heap.size (by simp)).trans hz
                      have hz2 := (q2.block _ (lt_of_block hzU) hfarz).trans hzU
                      obtain ⟨hN, hO2, hO3⟩ := HP1.out.pushE q1 q2
                      obtain ⟨vo', vc', rfl, -⟩ := q1.form
                      have hz3 := (heap_setCell_other w2 ⟨w.heap.size + 1, 2, none⟩ w1.heap.size (.slice vo' (es ++ [(p1, p2)]).length vc') (by
                        have := lt_of_block HP0.out.last
                        simp
                        omega)).trans hz2
                      rw [List.length_append, List.length_singleton] at hN hz3
                      have HN := Nu.hid hN
                      obtain ⟨z0, z1, -⟩ := two_cells17 hz3
                      obtain ⟨l0, l1, lf⟩ := two_cells17 hN.last
                      clear hN q1 q2 hz hfarz hzU hz2 hz3
                      go_wp2
                      go_roundw
                      case rel => exact ⟨j2, m + 1, _, es ++ [(p1, p2)], p1, p2, rfl, by go_num, by omega, hj2, by rw [List.length_append, HLM.out]; rfl, HN.out.setLast p1 p2, HQ.out⟩
                      case measure => simp [intOf]; omega
                  · have hlti : ¬ ((m : Int) < (K : Int)) := by omega
                    obtain rfl : m = K := by omega
                    rw [Nat.sub_self] at hRj
                    have hQ := HF.out.2 es j hRj.symm
                    clear l0 l1 lf
                    by_cases hjn : j < n
                    · have hjni : (j : Int) < (n : Int) := by omega
                      rw [if_pos hjn] at hQ
                      have HQ := Nu.hid hQ
                      obtain ⟨r0, r1, r2, -⟩ := three_cells17 (three_set17 hS.res (.bool false) (.slice none 0 0) (.slice none 0 0))
                      clear hQ hRj hS
                      go_wp2
                      refine bodyPost_ret (v := .tuple #[.agg #[.bool false, .slice none 0 0, .slice none 0 0], .int .i64 (j : Int), .int .i64 170]) (by simp [results, Tryd.results8, go_sem, r0, r1, r2]) rfl (parsP_err HQ.out (HP.out.out _ _ _).1)
                    · have hjni : ¬ ((j : Int) < (n : Int)) := by omega
                      rw [if_neg hjn] at hQ
                      have HQ := Nu.hid hQ
                      obtain ⟨r0, r1, r2, -⟩ := three_cells17 (three_set17 hS.res (.bool false) (.slice none 0 0) (.slice vo es.length vc))
                      obtain ⟨q1, q2, q3⟩ := hS.out (.bool false) (.slice none 0 0) (.slice vo es.length vc)
                      have H1 := Nu.hid q1
                      have H2 := Nu.hid q2
                      have H3 := Nu.hid q3
                      clear hQ hRj hS q1 q2 q3
                      go_wp2
                      refine bodyPost_ret (v := .tuple #[.agg #[.bool false, .slice none 0 0, .slice vo es.length vc], .int .i64 0, .int .i64 0]) (by simp [results, Tryd.results8, go_sem, r0, r1, r2]) rfl ?_
                      rw [← HQ.out]
                      exact ⟨H1.out, _, rfl, _, _, [], rfl, H2.out, H3.out⟩
end Go.Proofs.YtodlejemkihjnaaDoor
