import Derived.Test.YtfjgmbimapkabaaDoorMg10
import Derived.Test.YtfjgmbimapkabaaDoorMg09
import Derived.Laws.AppendOwnNone
import Derived.Deep.AppendLies
/-
  The document's own edge: a line of two numbers.
-/
namespace Go.Proofs.YtfjgmbimapkabaaDoor
open Go.RowKit

/-- What an edge's reading answers. -/
def EdgP (R : Except Nat ((Int × Int) × Nat)) (w : World) (e : Ending) (w' : World) : Prop :=
  Below w.heap.size w w' ∧ ((∃ p k, R = .ok (p, k) ∧ e = .returned (.tuple #[.agg #[.int .i64 p.1, .int .i64 p.2], .int .i64 ((k : Nat) : Int), .int .i64 (-1)])) ∨ ∃ q : Nat, R = .error q ∧ e = .returned (.tuple #[.agg #[.int .i64 0, .int .i64 0], .int .i64 0, .int .i64 (q : Int)]))

set_option maxRecDepth 100000 in
set_option maxHeartbeats 4000000 in
theorem redge17_any {ao : Option Addr} {n cap : Nat} {g : Nat → Int} {w : World} (h : HasText w ao n g) (hn : n ≤ 33554432) (i : Nat) (hi : i ≤ n) (la lb : Int) :
    Calls Tryd.prog 26 #[.slice ao n cap, .int .i64 (i : Int), .agg #[.int .i64 la, .int .i64 lb]] w (EdgP (Ce.edg (Ce.atF n g) n i (la, lb)) w) := by
  have hb0 : Below w.heap.size w ((w.alloc (.cells #[.int .i64 la, .int .i64 lb] 55)).alloc (.cells #[.int .i64 0, .int .i64 0] 55)) := ((Below.refl _ _).alloc (Nat.le_refl _) _).alloc (by simp) _
  have hset : ∀ a b : Int, Below w.heap.size w ((w.alloc (.cells #[.int .i64 la, .int .i64 lb] 55)).alloc (.cells #[.int .i64 a, .int .i64 b] 55)) := fun a b => ((Below.refl _ _).alloc (Nat.le_refl _) _).alloc (by simp) _
  obtain ⟨hA, hY, hN⟩ := h.eqs (cap := cap) hn
  have HB := Nu.hid hb0
  have HS := Nu.hid hset
  have hT := h.txt
  obtain ⟨B, hB⟩ : ∃ B, Ce.atF n g = B := ⟨_, rfl⟩
  rw [hB] at hA hY hN hT ⊢
  have HA := Nu.hid hA
  have HY := Nu.hid hY
  have HN := Nu.hid hN
  have HT := Nu.hid hT
  obtain ⟨R, hR⟩ : ∃ R, Ce.edg B n i (la, lb) = R := ⟨_, rfl⟩
  rw [hR]
  unfold Ce.edg at hR
  clear h hA hY hN hT hB hb0 hset
  cases hm : Ce.num B n i with
  | none =>
    rw [hm] at hR
    have HC : Hid (∃ v k : Int, ∀ W, Below w.heap.size w W → Calls Tryd.prog 24 #[.slice ao n cap, .int .i64 (i : Int)] W fun e w' => e = .returned (.tuple #[.int .i64 v, .int .i64 k, .bool false]) ∧ w' = W) := HN.out i hi hm
    obtain ⟨v, k, hc⟩ := HC.out
    have HC := Nu.hid hc
    clear hm hc
    have HR := Nu.hid hR
    clear hR
    go_enter Tryd.func26, Tryd.ntmps26
    go_wp2_with (first | (go_at_call 24; with_reducible refine (HC.out _ HB.out).mono ?_; rintro e w' ⟨rfl, hw'⟩; obtain rfl := hw'.symm; clear hw'))
    refine bodyPost_ret (v := .tuple #[.agg #[.int .i64 0, .int .i64 0], .int .i64 0, .int .i64 ((i : Nat) : Int)]) (by simp [results, Tryd.results26, go_sem]) rfl ⟨HS.out _ _, .inr ⟨i, HR.out.symm, rfl⟩⟩
  | some q =>
    obtain ⟨u, k⟩ := q
    rw [hm] at hR
    dsimp only at hR
    have HC : Hid (∀ W, Below w.heap.size w W → Calls Tryd.prog 24 #[.slice ao n cap, .int .i64 (i : Int)] W fun e w' => e = .returned (.tuple #[.int .i64 u, .int .i64 (k : Int), .bool true]) ∧ w' = W) := fun W hW => HY.out W hW i u k hi hm
    obtain ⟨-, -, -, hkn⟩ := Ce.num_is hi hm
    obtain ⟨x, hx⟩ : ∃ x, B k = x := ⟨_, rfl⟩
    have HX : Hid (∀ W, Below w.heap.size w W → Calls Tryd.prog 23 #[.slice ao n cap, .int .i64 (k : Int)] W fun e w' => e = .returned (.int .i64 x) ∧ w' = W) := fun W hW => by rw [← hx]; exact HA.out W hW k hkn
    rw [hx] at hR
    clear hm
    by_cases c1 : x ≠ 32
    · have e1 : (x != 32) = true := by simp [c1]
      rw [if_pos c1] at hR
      clear c1 hx
      have HR := Nu.hid hR
      clear hR
      go_enter Tryd.func26, Tryd.ntmps26
      go_wp2_with (first | (go_at_call 24; with_reducible refine (HC.out _ HB.out).mono ?_; rintro e w' ⟨rfl, hw'⟩; obtain rfl := hw'.symm; clear hw') | (go_at_call 23; with_reducible refine (HX.out _ HB.out).mono ?_; rintro e w' ⟨rfl, hw'⟩; obtain rfl := hw'.symm; clear hw'))
      refine bodyPost_ret (v := .tuple #[.agg #[.int .i64 0, .int .i64 0], .int .i64 0, .int .i64 ((k : Nat) : Int)]) (by simp [results, Tryd.results26, go_sem]) rfl ⟨HS.out _ _, .inr ⟨k, HR.out.symm, rfl⟩⟩
    · rw [if_neg c1] at hR
      obtain rfl : x = 32 := Classical.byContradiction c1
      have hlt := Ce.in_of HT.out hx (by decide)
      have e1 : ((32 : Int) != 32) = false := rfl
      clear hx c1
      cases hm2 : Ce.num B n (k + 1) with
      | none =>
        rw [hm2] at hR
        have HC2 : Hid (∃ v k' : Int, ∀ W, Below w.heap.size w W → Calls Tryd.prog 24 #[.slice ao n cap, .int .i64 ((k : Int) + 1)] W fun e w' => e = .returned (.tuple #[.int .i64 v, .int .i64 k', .bool false]) ∧ w' = W) := HN.out (k + 1) (by omega) hm2
        obtain ⟨v2, k2, hc⟩ := HC2.out
        have HC2 := Nu.hid hc
        clear hm2 hc
        have HR := Nu.hid hR
        clear hR
        go_enter Tryd.func26, Tryd.ntmps26
        go_wp2_with (first | (go_at_call 24; with_reducible refine (HC.out _ HB.out).mono ?_; rintro e w' ⟨rfl, hw'⟩; obtain rfl := hw'.symm; clear hw') | (go_at_call 23; with_reducible refine (HX.out _ HB.out).mono ?_; rintro e w' ⟨rfl, hw'⟩; obtain rfl := hw'.symm; clear hw') | (go_at_call 24; with_reducible refine (HC2.out _ HB.out).mono ?_; rintro e w' ⟨rfl, hw'⟩; obtain rfl := hw'.symm; clear hw'))
        refine bodyPost_ret (v := .tuple #[.agg #[.int .i64 0, .int .i64 0], .int .i64 0, .int .i64 ((k + 1 : Nat) : Int)]) (by simp [results, Tryd.results26, go_sem]) rfl ⟨HS.out _ _, .inr ⟨k + 1, HR.out.symm, rfl⟩⟩
      | some q =>
        obtain ⟨v, e2⟩ := q
        rw [hm2] at hR
        dsimp only at hR
        have HC2 : Hid (∀ W, Below w.heap.size w W → Calls Tryd.prog 24 #[.slice ao n cap, .int .i64 ((k : Int) + 1)] W fun e w' => e = .returned (.tuple #[.int .i64 v, .int .i64 (e2 : Int), .bool true]) ∧ w' = W) := fun W hW => HY.out W hW (k + 1) v e2 (by omega) hm2
        obtain ⟨-, -, -, hkn2⟩ := Ce.num_is (by omega) hm2
        obtain ⟨x2, hx2⟩ : ∃ x, B e2 = x := ⟨_, rfl⟩
        have HX2 : Hid (∀ W, Below w.heap.size w W → Calls Tryd.prog 23 #[.slice ao n cap, .int .i64 (e2 : Int)] W fun e w' => e = .returned (.int .i64 x2) ∧ w' = W) := fun W hW => by rw [← hx2]; exact HA.out W hW e2 hkn2
        rw [hx2] at hR
        clear hm2 hx2 HT HA HY HN
        by_cases c2 : v ≤ u
        · rw [if_pos c2] at hR
          have HR := Nu.hid hR
          clear hR
          go_enter Tryd.func26, Tryd.ntmps26
          go_wp2_with (first | (go_at_call 24; with_reducible refine (HC.out _ HB.out).mono ?_; rintro e w' ⟨rfl, hw'⟩; obtain rfl := hw'.symm; clear hw') | (go_at_call 23; with_reducible refine (HX.out _ HB.out).mono ?_; rintro e w' ⟨rfl, hw'⟩; obtain rfl := hw'.symm; clear hw') | (go_at_call 24; with_reducible refine (HC2.out _ HB.out).mono ?_; rintro e w' ⟨rfl, hw'⟩; obtain rfl := hw'.symm; clear hw') | (go_at_call 23; with_reducible refine (HX2.out _ HB.out).mono ?_; rintro e w' ⟨rfl, hw'⟩; obtain rfl := hw'.symm; clear hw'))
          refine bodyPost_ret (v := .tuple #[.agg #[.int .i64 0, .int .i64 0], .int .i64 0, .int .i64 ((k + 1 : Nat) : Int)]) (by simp [results, Tryd.results26, go_sem]) rfl ⟨HS.out _ _, .inr ⟨k + 1, HR.out.symm, rfl⟩⟩
        · rw [if_neg c2] at hR
          by_cases d1 : u < la
          · rw [if_pos (.inl d1)] at hR
            have HR := Nu.hid hR
            clear hR
            go_enter Tryd.func26, Tryd.ntmps26
            go_wp2_with (first | (go_at_call 24; with_reducible refine (HC.out _ HB.out).mono ?_; rintro e w' ⟨rfl, hw'⟩; obtain rfl := hw'.symm; clear hw') | (go_at_call 23; with_reducible refine (HX.out _ HB.out).mono ?_; rintro e w' ⟨rfl, hw'⟩; obtain rfl := hw'.symm; clear hw') | (go_at_call 24; with_reducible refine (HC2.out _ HB.out).mono ?_; rintro e w' ⟨rfl, hw'⟩; obtain rfl := hw'.symm; clear hw') | (go_at_call 23; with_reducible refine (HX2.out _ HB.out).mono ?_; rintro e w' ⟨rfl, hw'⟩; obtain rfl := hw'.symm; clear hw'))
            refine bodyPost_ret (v := .tuple #[.agg #[.int .i64 0, .int .i64 0], .int .i64 0, .int .i64 ((i : Nat) : Int)]) (by simp [results, Tryd.results26, go_sem]) rfl ⟨HS.out _ _, .inr ⟨i, HR.out.symm, rfl⟩⟩
          · by_cases d2 : u = la
            · have d2' : (u == la) = true := by simp [d2]
              by_cases d3 : v ≤ lb
              · rw [if_pos (.inr ⟨d2, d3⟩)] at hR
                clear d2
                have HR := Nu.hid hR
                clear hR
                go_enter Tryd.func26, Tryd.ntmps26
                go_wp2_with (first | (go_at_call 24; with_reducible refine (HC.out _ HB.out).mono ?_; rintro e w' ⟨rfl, hw'⟩; obtain rfl := hw'.symm; clear hw') | (go_at_call 23; with_reducible refine (HX.out _ HB.out).mono ?_; rintro e w' ⟨rfl, hw'⟩; obtain rfl := hw'.symm; clear hw') | (go_at_call 24; with_reducible refine (HC2.out _ HB.out).mono ?_; rintro e w' ⟨rfl, hw'⟩; obtain rfl := hw'.symm; clear hw') | (go_at_call 23; with_reducible refine (HX2.out _ HB.out).mono ?_; rintro e w' ⟨rfl, hw'⟩; obtain rfl := hw'.symm; clear hw'))
                refine bodyPost_ret (v := .tuple #[.agg #[.int .i64 0, .int .i64 0], .int .i64 0, .int .i64 ((i : Nat) : Int)]) (by simp [results, Tryd.results26, go_sem]) rfl ⟨HS.out _ _, .inr ⟨i, HR.out.symm, rfl⟩⟩
              · rw [if_neg (by first | omega | (dsimp only; omega))] at hR
                clear d2
                by_cases c4 : x2 ≠ 10
                · have e4 : (x2 != 10) = true := by simp [c4]
                  rw [if_pos c4] at hR
                  clear c4
                  have HR := Nu.hid hR
                  clear hR
                  go_enter Tryd.func26, Tryd.ntmps26
                  go_wp2_with (first | (go_at_call 24; with_reducible refine (HC.out _ HB.out).mono ?_; rintro e w' ⟨rfl, hw'⟩; obtain rfl := hw'.symm; clear hw') | (go_at_call 23; with_reducible refine (HX.out _ HB.out).mono ?_; rintro e w' ⟨rfl, hw'⟩; obtain rfl := hw'.symm; clear hw') | (go_at_call 24; with_reducible refine (HC2.out _ HB.out).mono ?_; rintro e w' ⟨rfl, hw'⟩; obtain rfl := hw'.symm; clear hw') | (go_at_call 23; with_reducible refine (HX2.out _ HB.out).mono ?_; rintro e w' ⟨rfl, hw'⟩; obtain rfl := hw'.symm; clear hw'))
                  refine bodyPost_ret (v := .tuple #[.agg #[.int .i64 0, .int .i64 0], .int .i64 0, .int .i64 ((e2 : Nat) : Int)]) (by simp [results, Tryd.results26, go_sem]) rfl ⟨HS.out _ _, .inr ⟨e2, HR.out.symm, rfl⟩⟩
                · rw [if_neg c4] at hR
                  obtain rfl : x2 = 10 := Classical.byContradiction c4
                  have e4 : ((10 : Int) != 10) = false := rfl
                  have HR := Nu.hid hR
                  clear hR c4
                  go_enter Tryd.func26, Tryd.ntmps26
                  go_wp2_with (first | (go_at_call 24; with_reducible refine (HC.out _ HB.out).mono ?_; rintro e w' ⟨rfl, hw'⟩; obtain rfl := hw'.symm; clear hw') | (go_at_call 23; with_reducible refine (HX.out _ HB.out).mono ?_; rintro e w' ⟨rfl, hw'⟩; obtain rfl := hw'.symm; clear hw') | (go_at_call 24; with_reducible refine (HC2.out _ HB.out).mono ?_; rintro e w' ⟨rfl, hw'⟩; obtain rfl := hw'.symm; clear hw') | (go_at_call 23; with_reducible refine (HX2.out _ HB.out).mono ?_; rintro e w' ⟨rfl, hw'⟩; obtain rfl := hw'.symm; clear hw'))
                  refine bodyPost_ret (v := .tuple #[.agg #[.int .i64 u, .int .i64 v], .int .i64 ((e2 + 1 : Nat) : Int), .int .i64 (-1)]) (by simp [results, Tryd.results26, go_sem]) rfl ⟨HS.out _ _, .inl ⟨(u, v), e2 + 1, HR.out.symm, rfl⟩⟩
            · have d2' : (u == la) = false := by simp [d2]
              rw [if_neg (by first | omega | (dsimp only; omega))] at hR
              clear d2
              by_cases c4 : x2 ≠ 10
              · have e4 : (x2 != 10) = true := by simp [c4]
                rw [if_pos c4] at hR
                clear c4
                have HR := Nu.hid hR
                clear hR
                go_enter Tryd.func26, Tryd.ntmps26
                go_wp2_with (first | (go_at_call 24; with_reducible refine (HC.out _ HB.out).mono ?_; rintro e w' ⟨rfl, hw'⟩; obtain rfl := hw'.symm; clear hw') | (go_at_call 23; with_reducible refine (HX.out _ HB.out).mono ?_; rintro e w' ⟨rfl, hw'⟩; obtain rfl := hw'.symm; clear hw') | (go_at_call 24; with_reducible refine (HC2.out _ HB.out).mono ?_; rintro e w' ⟨rfl, hw'⟩; obtain rfl := hw'.symm; clear hw') | (go_at_call 23; with_reducible refine (HX2.out _ HB.out).mono ?_; rintro e w' ⟨rfl, hw'⟩; obtain rfl := hw'.symm; clear hw'))
                refine bodyPost_ret (v := .tuple #[.agg #[.int .i64 0, .int .i64 0], .int .i64 0, .int .i64 ((e2 : Nat) : Int)]) (by simp [results, Tryd.results26, go_sem]) rfl ⟨HS.out _ _, .inr ⟨e2, HR.out.symm, rfl⟩⟩
              · rw [if_neg c4] at hR
                obtain rfl : x2 = 10 := Classical.byContradiction c4
                have e4 : ((10 : Int) != 10) = false := rfl
                have HR := Nu.hid hR
                clear hR c4
                go_enter Tryd.func26, Tryd.ntmps26
                go_wp2_with (first | (go_at_call 24; with_reducible refine (HC.out _ HB.out).mono ?_; rintro e w' ⟨rfl, hw'⟩; obtain rfl := hw'.symm; clear hw') | (go_at_call 23; with_reducible refine (HX.out _ HB.out).mono ?_; rintro e w' ⟨rfl, hw'⟩; obtain rfl := hw'.symm; clear hw') | (go_at_call 24; with_reducible refine (HC2.out _ HB.out).mono ?_; rintro e w' ⟨rfl, hw'⟩; obtain rfl := hw'.symm; clear hw') | (go_at_call 23; with_reducible refine (HX2.out _ HB.out).mono ?_; rintro e w' ⟨rfl, hw'⟩; obtain rfl := hw'.symm; clear hw'))
                refine bodyPost_ret (v := .tuple #[.agg #[.int .i64 u, .int .i64 v], .int .i64 ((e2 + 1 : Nat) : Int), .int .i64 (-1)]) (by simp [results, Tryd.results26, go_sem]) rfl ⟨HS.out _ _, .inl ⟨(u, v), e2 + 1, HR.out.symm, rfl⟩⟩
end Go.Proofs.YtfjgmbimapkabaaDoor
/-
  'append' of a list to a list of lists of one's own, by its run.
-/
namespace Go.Proofs.YtfjgmbimapkabaaDoor
open Go.RowKit Go.Sort

theorem run_pushR {U : World} (B : Nat) (v : Value) (vs : List Value) (m : Nat) (xa : Option Addr) (xn xc : Nat) (hR : U.ownsRow B 34 1 v m vs) (hB : B ≤ U.heap.size) (g : Nat) (hg : U.heap[g]? = some (.cells #[.slice xa xn xc] 34 (0, 0))) (hl : m ≤ 4398046511000) :
    ∃ v' w', (∀ (o : Oper) (ev : Operand → Value) (s x : Operand), o.op = .call { callee := .builtin .append, args := #[s, x], argTypes := #[24, 24] } → o.type = 24 → ev s = v → ev x = .slice (some ⟨g, 0, none⟩) 1 1 → (execOp ev o).run Tryd.prog U = .ok (.value v') w') ∧ w'.ownsRow B 34 1 v' (m + 1) (vs ++ [.slice xa xn xc]) ∧ U.grownBy w' v.ownBlock ∧ (v'.ownBlock = v.ownBlock ∨ v'.ownBlock = some U.heap.size) := by
  obtain ⟨i1, hi1, hy0, hy1, hy2⟩ := info_parts Tryd.infoRow
  obtain ⟨v', w', hr, h2, h3, _, h5⟩ := run_append_own_at (P := Tryd.prog) U B 24 24 34 i1 (.slice none 0 0) 1 24 Tryd.underlying24 hi1 hy0 hy1 hy2 rfl (by decide) v m vs hR ⟨g, 0, none⟩ 1 1 [.slice xa xn xc] rfl (World.news_of_block hg) (by simp [Value.oneCell']) (by unfold maxLen; omega) (by omega) hB
  refine ⟨v', w', fun o ev s x ho ht hs hx => ?_, h2, h3, h5⟩
  unfold execOp
  simp only [ho, ht, resolve, invoke, builtin, Sem.run_bind, Sem.run_pure, Result.andThen_ok, List.map_toArray, List.map_cons, List.map_nil, hs, hx, hr]
end Go.Proofs.YtfjgmbimapkabaaDoor
