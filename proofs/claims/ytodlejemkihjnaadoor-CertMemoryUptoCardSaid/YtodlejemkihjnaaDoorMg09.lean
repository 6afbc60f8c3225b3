import Derived.Test.YtodlejemkihjnaaDoorMg08
import Derived.Test.YtodlejemkihjnaaDoorMg04
import Derived.Laws.AppendOwnNone
import Derived.Sort.Grow
import Derived.Maps.AppendAt
import Derived.Deep.AppendLies
import Derived.Test.YtodlejemkihjnaaDoorMg03
/-
  The document's own edge: a line of two numbers.
-/
namespace Go.Proofs.YtodlejemkihjnaaDoor
open Go.RowKit

/-- What an edge's reading answers. -/
def EdgP (R : Except Nat ((Int × Int) × Nat)) (w : World) (e : Ending) (w' : World) : Prop :=
  Below w.heap.size w w' ∧ ((∃ p k, R = .ok (p, k) ∧ e = .returned (.tuple #[.agg #[.int .i64 p.1, .int .i64 p.2], .int .i64 ((k : Nat) : Int), .int .i64 (-1)])) ∨ ∃ q : Nat, R = .error q ∧ e = .returned (.tuple #[.agg #[.int .i64 0, .int .i64 0], .int .i64 0, .int .i64 (q : Int)]))

set_option maxRecDepth 100000 in
set_option maxHeartbeats 4000000 in
theorem redge17_any {ao : Option Addr} {n cap : Nat} {g : Nat → Int} {w : World} (h : HasText w ao n g) (hn : n ≤ 33554432) (i : Nat) (hi : i ≤ n) (la lb : Int) :
    Calls Tryd.prog 17 #[.slice ao n cap, .int .i64 (i : Int), .agg #[.int .i64 la, .int .i64 lb]] w (EdgP (Ce.edg (Ce.atF n g) n i (la, lb)) w) := by
  have hb0 : Below w.heap.size w ((w.alloc (.cells #[.int .i64 la, .int .i64 lb] 41)).alloc (.cells #[.int .i64 0, .int .i64 0] 41)) := ((Below.refl _ _).alloc (Nat.le_refl _) _).alloc (by simp) _
  have hset : ∀ a b : Int, Below w.heap.size w ((w.alloc (.cells #[.int .i64 la, .int .i64 lb] 41)).alloc (.cells #[.int .i64 a, .int .i64 b] 41)) := fun a b => ((Below.refl _ _).alloc (Nat.le_refl _) _).alloc (by simp) _
  obtain ⟨hA, hY, hN⟩ := h.eqs (cap := cap) hn
  have HB := Nu.hid hb0
  have HS := Nu.hid hset
  have hT := h.txt
  obtain ⟨B, hB⟩ : ∃ B, Ce.atF n g = B := ⟨_, rfl⟩
  rw [hB] at hA hY hN hT ⊢
  have HA := Nu.hid hA
  have HY := Nu.hid hY
  have HN := Nu.hid hN
  have HT := Nu.hid hT
  obtain ⟨R, hR⟩ : ∃ R, Ce.edg B n i (la, lb) = R := ⟨_, rfl⟩
  rw [hR]
  unfold Ce.edg at hR
  clear h hA hY hN hT hB hb0 hset
  cases hm : Ce.num B n i with
  | none =>
    rw [hm] at hR
    have HC : Hid (∃ v k : Int, ∀ W, Below w.heap.size w W → Calls Tryd.prog 15 #[.slice ao n cap, .int .i64 (i : Int)] W fun e w' => e = .returned (.tuple #[.int .i64 v, .int .i64 k, .bool false]) ∧ w' = W) := HN.out i hi hm
    obtain ⟨v, k, hc⟩ := HC.out
    have HC := Nu.hid hc
    clear hm hc
    have HR := Nu.hid hR
    clear hR
    go_enter Tryd.func17, Tryd.ntmps17
    go_wp2_with (first | (go_at_call 15; with_reducible refine (HC.out _ HB.out).mono ?_; rintro e w' ⟨rfl, hw'⟩; obtain rfl := hw'.symm; clear hw'))
    refine bodyPost_ret (v := .tuple #[.agg #[.int .i64 0, .int .i64 0], .int .i64 0, .int .i64 ((i : Nat) : Int)]) (by simp [results, Tryd.results17, go_sem]) rfl ⟨HS.out _ _, .inr ⟨i, HR.out.symm, rfl⟩⟩
  | some q =>
    obtain ⟨u, k⟩ := q
    rw [hm] at hR
    dsimp only at hR
    have HC : Hid (∀ W, Below w.heap.size w W → Calls Tryd.prog 15 #[.slice ao n cap, .int .i64 (i : Int)] W fun e w' => e = .returned (.tuple #[.int .i64 u, .int .i64 (k : Int), .bool true]) ∧ w' = W) := fun W hW => HY.out W hW i u k hi hm
    obtain ⟨-, -, -, hkn⟩ := Ce.num_is hi hm
    obtain ⟨x, hx⟩ : ∃ x, B k = x := ⟨_, rfl⟩
    have HX : Hid (∀ W, Below w.heap.size w W → Calls Tryd.prog 14 #[.slice ao n cap, .int .i64 (k : Int)] W fun e w' => e = .returned (.int .i64 x) ∧ w' = W) := fun W hW => by rw [← hx]; exact HA.out W hW k hkn
    rw [hx] at hR
    clear hm
    by_cases c1 : x ≠ 32
    · have e1 : (x != 32) = true := by simp [c1]
      rw [if_pos c1] at hR
      clear c1 hx
      have HR := Nu.hid hR
      clear hR
      go_enter Tryd.func17, Tryd.ntmps17
      go_wp2_with (first | (go_at_call 15; with_reducible refine (HC.out _ HB.out).mono ?_; rintro e w' ⟨rfl, hw'⟩; obtain rfl := hw'.symm; clear hw') | (go_at_call 14; with_reducible refine (HX.out _ HB.out).mono ?_; rintro e w' ⟨rfl, hw'⟩; obtain rfl := hw'.symm; clear hw'))
      refine bodyPost_ret (v := .tuple #[.agg #[.int .i64 0, .int .i64 0], .int .i64 0, .int .i64 ((k : Nat) : Int)]) (by simp [results, Tryd.results17, go_sem]) rfl ⟨HS.out _ _, .inr ⟨k, HR.out.symm, rfl⟩⟩
    · rw [if_neg c1] at hR
      obtain rfl : x = 32 := Classical.byContradiction c1
      have hlt := Ce.in_of HT.out hx (by decide)
      have e1 : ((32 : Int) != 32) = false := rfl
      clear hx c1
      cases hm2 : Ce.num B n (k + 1) with
      | none =>
        rw [hm2] at hR
        have HC2 : Hid (∃ v k' : Int, ∀ W, Below w.heap.size w W → Calls Tryd.prog 15 #[.slice ao n cap, .int .i64 ((k : Int) + 1)] W fun e w' => e = .returned (.tuple #[.int .i64 v, .int .i64 k', .bool false]) ∧ w' = W) := HN.out (k + 1) (by omega) hm2
        obtain ⟨v2, k2, hc⟩ := HC2.out
        have HC2 := Nu.hid hc
        clear hm2 hc
        have HR := Nu.hid hR
        clear hR
        go_enter Tryd.func17, Tryd.ntmps17
        go_wp2_with (first | (go_at_call 15; with_reducible refine (HC.out _ HB.out).mono ?_; rintro e w' ⟨rfl, hw'⟩; obtain rfl := hw'.symm; clear hw') | (go_at_call 14; with_reducible refine (HX.out _ HB.out).mono ?_; rintro e w' ⟨rfl, hw'⟩; obtain rfl := hw'.symm; clear hw') | (go_at_call 15; with_reducible refine (HC2.out _ HB.out).mono ?_; rintro e w' ⟨rfl, hw'⟩; obtain rfl := hw'.symm; clear hw'))
        refine bodyPost_ret (v := .tuple #[.agg #[.int .i64 0, .int .i64 0], .int .i64 0, .int .i64 ((k + 1 : Nat) : Int)]) (by simp [results, Tryd.results17, go_sem]) rfl ⟨HS.out _ _, .inr ⟨k + 1, HR.out.symm, rfl⟩⟩
      | some q =>
        obtain ⟨v, e2⟩ := q
        rw [hm2] at hR
        dsimp only at hR
        have HC2 : Hid (∀ W, Below w.heap.size w W → Calls Tryd.prog 15 #[.slice ao n cap, .int .i64 ((k : Int) + 1)] W fun e w' => e = .returned (.tuple #[.int .i64 v, .int .i64 (e2 : Int), .bool true]) ∧ w' = W) := fun W hW => HY.out W hW (k + 1) v e2 (by omega) hm2
        obtain ⟨-, -, -, hkn2⟩ := Ce.num_is (by omega) hm2
        obtain ⟨x2, hx2⟩ : ∃ x, B e2 = x := ⟨_, rfl⟩
        have HX2 : Hid (∀ W, Below w.heap.size w W → Calls Tryd.prog 14 #[.slice ao n cap, .int .i64 (e2 : Int)] W fun e w' => e = .returned (.int .i64 x2) ∧ w' = W) := fun W hW => by rw [← hx2]; exact HA.out W hW e2 hkn2
        rw [hx2] at hR
        clear hm2 hx2 HT HA HY HN
        by_cases c2 : v ≤ u
        · rw [if_pos c2] at hR
          have HR := Nu.hid hR
          clear hR
          go_enter Tryd.func17, Tryd.ntmps17
          go_wp2_with (first | (go_at_call 15; with_reducible refine (HC.out _ HB.out).mono ?_; rintro e w' ⟨rfl, hw'⟩; obtain rfl := hw'.symm; clear hw') | (go_at_call 14; with_reducible refine (HX.out _ HB.out).mono ?_; rintro e w' ⟨rfl, hw'⟩; obtain rfl := hw'.symm; clear hw') | (go_at_call 15; with_reducible refine (HC2.out _ HB.out).mono ?_; rintro e w' ⟨rfl, hw'⟩; obtain rfl := hw'.symm; clear hw') | (go_at_call 14; with_reducible refine (HX2.out _ HB.out).mono ?_; rintro e w' ⟨rfl, hw'⟩; obtain rfl := hw'.symm; clear hw'))
          refine bodyPost_ret (v := .tuple #[.agg #[.int .i64 0, .int .i64 0], .int .i64 0, .int .i64 ((k + 1 : Nat) : Int)]) (by simp [results, Tryd.results17, go_sem]) rfl ⟨HS.out _ _, .inr ⟨k + 1, HR.out.symm, rfl⟩⟩
        · rw [if_neg c2] at hR
          by_cases d1 : u < la
          · rw [if_pos (.inl d1)] at hR
            have HR := Nu.hid hR
            clear hR
            go_enter Tryd.func17, Tryd.ntmps17
            go_wp2_with (first | (go_at_call 15; with_reducible refine (HC.out _ HB.out).mono ?_; rintro e w' ⟨rfl, hw'⟩; obtain rfl := hw'.symm; clear hw') | (go_at_call 14; with_reducible refine (HX.out _ HB.out).mono ?_; rintro e w' ⟨rfl, hw'⟩; obtain rfl := hw'.symm; clear hw') | (go_at_call 15; with_reducible refine (HC2.out _ HB.out).mono ?_; rintro e w' ⟨rfl, hw'⟩; obtain rfl := hw'.symm; clear hw') | (go_at_call 14; with_reducible refine (HX2.out _ HB.out).mono ?_; rintro e w' ⟨rfl, hw'⟩; obtain rfl := hw'.symm; clear hw'))
            refine bodyPost_ret (v := .tuple #[.agg #[.int .i64 0, .int .i64 0], .int .i64 0, .int .i64 ((i : Nat) : Int)]) (by simp [results, Tryd.results17, go_sem]) rfl ⟨HS.out _ _, .inr ⟨i, HR.out.symm, rfl⟩⟩
          · by_cases d2 : u = la
            · have d2' : (u == la) = true := by simp [d2]
              by_cases d3 : v ≤ lb
              · rw [if_pos (.inr ⟨d2, d3⟩)] at hR
                clear d2
                have HR := Nu.hid hR
                clear hR
                go_enter Tryd.func17, Tryd.ntmps17
                go_wp2_with (first | (go_at_call 15; with_reducible refine (HC.out _ HB.out).mono ?_; rintro e w' ⟨rfl, hw'⟩; obtain rfl := hw'.symm; clear hw') | (go_at_call 14; with_reducible refine (HX.out _ HB.out).mono ?_; rintro e w' ⟨rfl, hw'⟩; obtain rfl := hw'.symm; clear hw') | (go_at_call 15; with_reducible refine (HC2.out _ HB.out).mono ?_; rintro e w' ⟨rfl, hw'⟩; obtain rfl := hw'.symm; clear hw') | (go_at_call 14; with_reducible refine (HX2.out _ HB.out).mono ?_; rintro e w' ⟨rfl, hw'⟩; obtain rfl := hw'.symm; clear hw'))
                refine bodyPost_ret (v := .tuple #[.agg #[.int .i64 0, .int .i64 0], .int .i64 0, .int .i64 ((i : Nat) : Int)]) (by simp [results, Tryd.results17, go_sem]) rfl ⟨HS.out _ _, .inr ⟨i, HR.out.symm, rfl⟩⟩
              · rw [if_neg (by first | omega | (dsimp only; omega))] at hR
                clear d2
                by_cases c4 : x2 ≠ 10
                · have e4 : (x2 != 10) = true := by simp [c4]
                  rw [if_pos c4] at hR
                  clear c4
                  have HR := Nu.hid hR
                  clear hR
                  go_enter Tryd.func17, Tryd.ntmps17
                  go_wp2_with (first | (go_at_call 15; with_reducible refine (HC.out _ HB.out).mono ?_; rintro e w' ⟨rfl, hw'⟩; obtain rfl := hw'.symm; clear hw') | (go_at_call 14; with_reducible refine (HX.out _ HB.out).mono ?_; rintro e w' ⟨rfl, hw'⟩; obtain rfl := hw'.symm; clear hw') | (go_at_call 15; with_reducible refine (HC2.out _ HB.out).mono ?_; rintro e w' ⟨rfl, hw'⟩; obtain rfl := hw'.symm; clear hw') | (go_at_call 14; with_reducible refine (HX2.out _ HB.out).mono ?_; rintro e w' ⟨rfl, hw'⟩; obtain rfl := hw'.symm; clear hw'))
                  refine bodyPost_ret (v := .tuple #[.agg #[.int .i64 0, .int .i64 0], .int .i64 0, .int .i64 ((e2 : Nat) : Int)]) (by simp [results, Tryd.results17, go_sem]) rfl ⟨HS.out _ _, .inr ⟨e2, HR.out.symm, rfl⟩⟩
                · rw [if_neg c4] at hR
                  obtain rfl : x2 = 10 := Classical.byContradiction c4
                  have e4 : ((10 : Int) != 10) = false := rfl
                  have HR := Nu.hid hR
                  clear hR c4
                  go_enter Tryd.func17, Tryd.ntmps17
                  go_wp2_with (first | (go_at_call 15; with_reducible refine (HC.out _ HB.out).mono ?_; rintro e w' ⟨rfl, hw'⟩; obtain rfl := hw'.symm; clear hw') | (go_at_call 14; with_reducible refine (HX.out _ HB.out).mono ?_; rintro e w' ⟨rfl, hw'⟩; obtain rfl := hw'.symm; clear hw') | (go_at_call 15; with_reducible refine (HC2.out _ HB.out).mono ?_; rintro e w' ⟨rfl, hw'⟩; obtain rfl := hw'.symm; clear hw') | (go_at_call 14; with_reducible refine (HX2.out _ HB.out).mono ?_; rintro e w' ⟨rfl, hw'⟩; obtain rfl := hw'.symm; clear hw'))
                  refine bodyPost_ret (v := .tuple #[.agg #[.int .i64 u, .int .i64 v], .int .i64 ((e2 + 1 : Nat) : Int), .int .i64 (-1)]) (by simp [results, Tryd.results17, go_sem]) rfl ⟨HS.out _ _, .inl ⟨(u, v), e2 + 1, HR.out.symm, rfl⟩⟩
            · have d2' : (u == la) = false := by simp [d2]
              rw [if_neg (by first | omega | (dsimp only; omega))] at hR
              clear d2
              by_cases c4 : x2 ≠ 10
              · have e4 : (x2 != 10) = true := by simp [c4]
                rw [if_pos c4] at hR
                clear c4
                have HR := Nu.hid hR
                clear hR
                go_enter Tryd.func17, Tryd.ntmps17
                go_wp2_with (first | (go_at_call 15; with_reducible refine (HC.out _ HB.out).mono ?_; rintro e w' ⟨rfl, hw'⟩; obtain rfl := hw'.symm; clear hw') | (go_at_call 14; with_reducible refine (HX.out _ HB.out).mono ?_; rintro e w' ⟨rfl, hw'⟩; obtain rfl := hw'.symm; clear hw') | (go_at_call 15; with_reducible refine (HC2.out _ HB.out).mono ?_; rintro e w' ⟨rfl, hw'⟩; obtain rfl := hw'.symm; clear hw') | (go_at_call 14; with_reducible refine (HX2.out _ HB.out).mono ?_; rintro e w' ⟨rfl, hw'⟩; obtain rfl := hw'.symm; clear hw'))
                refine bodyPost_ret (v := .tuple #[.agg #[.int .i64 0, .int .i64 0], .int .i64 0, .int .i64 ((e2 : Nat) : Int)]) (by simp [results, Tryd.results17, go_sem]) rfl ⟨HS.out _ _, .inr ⟨e2, HR.out.symm, rfl⟩⟩
              · rw [if_neg c4] at hR
                obtain rfl : x2 = 10 := Classical.byContradiction c4
                have e4 : ((10 : Int) != 10) = false := rfl
                have HR := Nu.hid hR
                clear hR c4
                go_enter Tryd.func17, Tryd.ntmps17
                go_wp2_with (first | (go_at_call 15; with_reducible refine (HC.out _ HB.out).mono ?_; rintro e w' ⟨rfl, hw'⟩; obtain rfl := hw'.symm; clear hw') | (go_at_call 14; with_reducible refine (HX.out _ HB.out).mono ?_; rintro e w' ⟨rfl, hw'⟩; obtain rfl := hw'.symm; clear hw') | (go_at_call 15; with_reducible refine (HC2.out _ HB.out).mono ?_; rintro e w' ⟨rfl, hw'⟩; obtain rfl := hw'.symm; clear hw') | (go_at_call 14; with_reducible refine (HX2.out _ HB.out).mono ?_; rintro e w' ⟨rfl, hw'⟩; obtain rfl := hw'.symm; clear hw'))
                refine bodyPost_ret (v := .tuple #[.agg #[.int .i64 u, .int .i64 v], .int .i64 ((e2 + 1 : Nat) : Int), .int .i64 (-1)]) (by simp [results, Tryd.results17, go_sem]) rfl ⟨HS.out _ _, .inl ⟨(u, v), e2 + 1, HR.out.symm, rfl⟩⟩
end Go.Proofs.YtodlejemkihjnaaDoor

/-
  'append' of a list to a list of lists of one's own, by its run.
-/
namespace Go.Proofs.YtodlejemkihjnaaDoor
open Go.RowKit Go.Sort

theorem run_pushR {U : World} (B : Nat) (v : Value) (vs : List Value) (m : Nat) (xa : Option Addr) (xn xc : Nat) (hR : U.ownsRow B 39 1 v m vs) (hB : B ≤ U.heap.size) (g : Nat) (hg : U.heap[g]? = some (.cells #[.slice xa xn xc] 39 (0, 0))) (hl : m ≤ 4398046511000) :
    ∃ v' w', (∀ (o : Oper) (ev : Operand → Value) (s x : Operand), o.op = .call { callee := .builtin .append, args := #[s, x], argTypes := #[22, 22] } → o.type = 22 → ev s = v → ev x = .slice (some ⟨g, 0, none⟩) 1 1 → (execOp ev o).run Tryd.prog U = .ok (.value v') w') ∧ w'.ownsRow B 39 1 v' (m + 1) (vs ++ [.slice xa xn xc]) ∧ U.grownBy w' v.ownBlock ∧ (v'.ownBlock = v.ownBlock ∨ v'.ownBlock = some U.heap.size) := by
  obtain ⟨i1, hi1, hy0, hy1, hy2⟩ := info_parts Tryd.infoRow
  obtain ⟨v', w', hr, h2, h3, _, h5⟩ := run_append_own_at (P := Tryd.prog) U B 22 22 39 i1 (.slice none 0 0) 1 24 Tryd.underlying22 hi1 hy0 hy1 hy2 rfl (by decide) v m vs hR ⟨g, 0, none⟩ 1 1 [.slice xa xn xc] rfl (World.news_of_block hg) (by simp [Value.oneCell']) (by unfold maxLen; omega) (by omega) hB
  refine ⟨v', w', fun o ev s x ho ht hs hx => ?_, h2, h3, h5⟩
  unfold execOp
  simp only [ho, ht, resolve, invoke, builtin, Sem.run_bind, Sem.run_pure, Result.andThen_ok, List.map_toArray, List.map_cons, List.map_nil, hs, hx, hr]
end Go.Proofs.YtodlejemkihjnaaDoor

/-
  'append' of an edge to a list of edges of one's own, by its run.
-/
namespace Go.Proofs.YtodlejemkihjnaaDoor
open Go.RowKit Go.Sort

/-- 'append(v, e)' of a list of edges, in a region or not. -/
theorem wp_pushEU {U : World} {o : Oper} {a : Act} {K : Act → World → Prop} {Q : Exit → Act → World → Prop} (s x : Operand) (ho : o.op = .call { callee := .builtin .append, args := #[s, x], argTypes := #[23, 23] })
    (B : Nat) (v : Value) (l : List (Int × Int)) (y z : Int) (hR : OwnE U B v l) (hB : B ≤ U.heap.size) (hs : a.eval s = v) (g : Nat) (hx : a.eval x = .slice (some ⟨g, 0, none⟩) 1 1) (hg : U.heap[g]? = some (.cells #[.int .i64 y, .int .i64 z] 41 (0, 0)))
    (hl : l.length ≤ 8796093022000) (h : ∀ v' w', OwnE w' B v' (l ++ [(y, z)]) → U.grownBy w' v.ownBlock → (v'.ownBlock = v.ownBlock ∨ v'.ownBlock = some U.heap.size) → K (a.put o.dst v') w') : o.wp Tryd.prog a U K Q := by
  obtain ⟨i1, hi1, hy0, hy1, hy2⟩ := info_parts Tryd.infoEdge
  obtain ⟨v', w', hr, h2, h3, _, h5⟩ := run_append_own_at (P := Tryd.prog) U B 23 o.type 41 i1 (.agg #[.int .i64 0, .int .i64 0]) 2 16 Tryd.underlying23 hi1 hy0 hy1 hy2 rfl (by decide) v l.length (flatE l) hR ⟨g, 0, none⟩ 1 1 [.int .i64 y, .int .i64 z] rfl (World.news_of_block hg) (by simp [Value.oneCell']) (by unfold maxLen; omega) (by omega) hB
  unfold Oper.wp execOp
  simp only [ho, resolve, invoke, builtin, Sem.run_bind, Sem.run_pure, Result.andThen_ok, List.map_toArray, List.map_cons, List.map_nil, hs, hx, hr]
  refine h v' w' ?_ h3 h5
  unfold OwnE
  rw [flatE_snoc, List.length_append]
  exact h2

/-- The same, by its run. -/
theorem run_pushE {U : World} (B : Nat) (v : Value) (l : List (Int × Int)) (y z : Int) (hR : OwnE U B v l) (hB : B ≤ U.heap.size) (g : Nat) (hg : U.heap[g]? = some (.cells #[.int .i64 y, .int .i64 z] 41 (0, 0))) (hl : l.length ≤ 8796093022000) :
    ∃ v' w', (∀ (o : Oper) (ev : Operand → Value) (s x : Operand), o.op = .call { callee := .builtin .append, args := #[s, x], argTypes := #[23, 23] } → o.type = 23 → ev s = v → ev x = .slice (some ⟨g, 0, none⟩) 1 1 → (execOp ev o).run Tryd.prog U = .ok (.value v') w') ∧ OwnE w' B v' (l ++ [(y, z)]) ∧ U.grownBy w' v.ownBlock := by
  obtain ⟨i1, hi1, hy0, hy1, hy2⟩ := info_parts Tryd.infoEdge
  obtain ⟨v', w', hr, h2, h3, _, h5⟩ := run_append_own_at (P := Tryd.prog) U B 23 23 41 i1 (.agg #[.int .i64 0, .int .i64 0]) 2 16 Tryd.underlying23 hi1 hy0 hy1 hy2 rfl (by decide) v l.length (flatE l) hR ⟨g, 0, none⟩ 1 1 [.int .i64 y, .int .i64 z] rfl (World.news_of_block hg) (by simp [Value.oneCell']) (by unfold maxLen; omega) (by omega) hB
  refine ⟨v', w', fun o ev s x ho ht hs hx => ?_, ?_, h3⟩
  · unfold execOp
    simp only [ho, ht, resolve, invoke, builtin, Sem.run_bind, Sem.run_pure, Result.andThen_ok, List.map_toArray, List.map_cons, List.map_nil, hs, hx, hr]
  · unfold OwnE
    rw [flatE_snoc, List.length_append]
    exact h2

end Go.Proofs.YtodlejemkihjnaaDoor

/-
  What lies in memory in a drawn region whose operations that write come up in one order.
-/
namespace Go.Proofs.YtodlejemkihjnaaDoor
open Go.RowKit

namespace AnyM
/-- The worlds behind the operations that write, the last of them first. -/
def memC (A : World) : List (Nat × World) → (Nat → Bool) → World → Prop
  | [], _, V => V = A
  | (k, w) :: r, L, V => if L k = true then V = w else memC A r L V
theorem other {A : World} {i : Nat} : ∀ {r : List (Nat × World)} {L : Nat → Bool} {V : World}, (r.all fun q => q.1 != i) = true → memC A r L V → memC A r (AnyOrd.updB L i) V
  | [], _, _, _, h => h
  | (k, w) :: r, L, V, hk, h => by
    rw [List.all_cons, Bool.and_eq_true] at hk
    have e1 : AnyOrd.updB L i k = L k := if_neg (fun e => by simp [e] at hk)
    unfold memC at h ⊢
    rw [e1]
    split
    · rename_i hl
      rw [if_pos hl] at h
      exact h
    · rename_i hl
      rw [if_neg hl] at h
      exact other hk.2 h
theorem gives_exact {P : Program} {o : Oper} {ev : Operand → Value} {R : Value → World → Prop} {f : FuncId} {args : Array Value} {v : Value} {V V' : World} (h : (execOp ev o).run P V = .ok (.enter f args) V) (hc : Calls P f args V fun e w' => e = .returned v ∧ w' = V') (hR : R v V') : AnyOrd.Gives P o ev V R := by
  unfold AnyOrd.Gives
  rw [h]
  exact hc.mono fun e w' ⟨h1, h2⟩ => ⟨v, h1, by rw [h2]; exact hR⟩
/-- The same, of what is known of the worlds. -/
def memQ (A : World → Prop) : List (Nat × (World → Prop)) → (Nat → Bool) → World → Prop
  | [], _, V => A V
  | (k, Q) :: r, L, V => if L k = true then Q V else memQ A r L V
theorem otherQ {A : World → Prop} {i : Nat} : ∀ {r : List (Nat × (World → Prop))} {L : Nat → Bool} {V : World}, (r.all fun q => q.1 != i) = true → memQ A r L V → memQ A r (AnyOrd.updB L i) V
  | [], _, _, _, h => h
  | (k, w) :: r, L, V, hk, h => by
    rw [List.all_cons, Bool.and_eq_true] at hk
    have e1 : AnyOrd.updB L i k = L k := if_neg (fun e => by simp [e] at hk)
    unfold memQ at h ⊢
    rw [e1]
    split
    · rename_i hl
      rw [if_pos hl] at h
      exact h
    · rename_i hl
      rw [if_neg hl] at h
      exact otherQ hk.2 h
theorem gives_post {P : Program} {o : Oper} {ev : Operand → Value} {R : Value → World → Prop} {f : FuncId} {args : Array Value} {v : Value} {V : World} {S : World → Prop} (h : (execOp ev o).run P V = .ok (.enter f args) V) (hc : Calls P f args V fun e w' => e = .returned v ∧ S w') (hR : ∀ w', S w' → R v w') : AnyOrd.Gives P o ev V R := by
  unfold AnyOrd.Gives
  rw [h]
  exact hc.mono fun e w' ⟨h1, h2⟩ => ⟨v, h1, hR w' h2⟩
/-- A row that only reads. -/
theorem gv {P : Program} {o : Oper} {ev : Operand → Value} {v : Value} {i : Nat} {A : World} {r : List (Nat × World)} {L : Nat → Bool} {V : World} (hC : memC A r L V) (h : (execOp ev o).run P V = .ok (.value v) V) (hr : (r.all fun q => q.1 != i) = true) : AnyOrd.Gives P o ev V fun u w' => u = v ∧ memC A r (AnyOrd.updB L i) w' := AnyOrd.gives_value h ⟨rfl, other hr hC⟩
end AnyM
namespace AnyOrd
/-- What n waits for, k steps deep. -/
def needs (ops : Array Oper) : Nat → Nat → Nat → Bool
  | 0, _, _ => false
  | k + 1, n, i => match ops[n]? with
    | none => false
    | some o => o.after.toList.any fun e => Region.binds .any e && (e.on == i || needs ops k e.on i)
/-- The last one waits for all ahead of it. -/
def lastB (ops : Array Oper) (n : Nat) : Bool := (List.range n).all (needs ops 3 n)
theorem needs_on {ops : Array Oper} {L : Nat → Bool} (hd : ∀ j o', ops[j]? = some o' → L j = true → ∀ e ∈ o'.after, Region.binds .any e = true → L e.on = true) {i : Nat} : ∀ {k n : Nat}, needs ops k n i = true → L n = true → L i = true
  | 0, _, h, _ => by cases h
  | k + 1, n, h, hL => by
    unfold needs at h
    cases ho : ops[n]? with
    | none => rw [ho] at h; cases h
    | some o =>
      rw [ho] at h
      obtain ⟨e, he, h1⟩ := List.any_eq_true.1 h
      simp only [Bool.and_eq_true, Bool.or_eq_true, beq_iff_eq] at h1
      have h2 := hd n o ho hL e (by simpa using he) h1.1
      rcases h1.2 with rfl | h3
      · exact h2
      · exact needs_on hd h3 h2
theorem last_all {ops : Array Oper} {n : Nat} {L : Nat → Bool} (hl : lastB ops n = true) (hd : ∀ j o', ops[j]? = some o' → L j = true → ∀ e ∈ o'.after, Region.binds .any e = true → L e.on = true) (hL : L n = true) (i : Nat) (hi : i < n) : L i = true := needs_on hd (List.all_eq_true.1 hl i (List.mem_range.2 hi)) hL
theorem last_no {ops : Array Oper} {n i : Nat} {L : Nat → Bool} (hl : lastB ops n = true) (hd : ∀ j o', ops[j]? = some o' → L j = true → ∀ e ∈ o'.after, Region.binds .any e = true → L e.on = true) (hLi : L i = false) (hi : i < n + 1) : L n = false := by
  cases h : L n with
  | false => rfl
  | true =>
    rcases Nat.lt_or_ge i n with h1 | h1
    · rw [last_all hl hd h i h1] at hLi; cases hLi
    · obtain rfl : i = n := by omega
      rw [h] at hLi; cases hLi
end AnyOrd
end Go.Proofs.YtodlejemkihjnaaDoor

/-
  A drawn region in which a list is made, then appended, and a store comes behind all else.
-/
namespace Go.Proofs.YtodlejemkihjnaaDoor
open Go.RowKit

namespace AnyOrd
theorem anyK {P : Program} {ops : Array Oper} {Q : Exit → Act → World → Prop} {a0 : Act} {w0 : World} (val : Nat → Value) (w1 w2 w3 : World) (N n c d : Nat) (hN : a0.tmps.size = N) (hsh : shape ops ops.size (fun _ => []) = true) (hn : ops.size = n + 1) (hcd : c < d ∧ d < n) (hl : lastB ops n = true) (hdc' : needs ops 3 d c = true)
    (hstep : ∀ i o w (ev : Operand → Value), ops[i]? = some o → i < n → i ≠ c → i ≠ d → w = w0 ∨ w = w1 ∨ w = w2 →
      (∀ j t, j < i → dst ops j = some t → t < N → ev (.tmp t) = val j) → (∀ t, ((List.range i).all fun j => dst ops j != some t) = true → ev (.tmp t) = a0.eval (.tmp t)) → (execOp ev o).run P w = .ok (.value (val i)) w)
    (h1 : ∀ o (ev : Operand → Value), ops[c]? = some o → (∀ j t, j < c → dst ops j = some t → t < N → ev (.tmp t) = val j) → (execOp ev o).run P w0 = .ok (.value (val c)) w1)
    (h2 : ∀ o (ev : Operand → Value), ops[d]? = some o → (∀ j t, j < d → dst ops j = some t → t < N → ev (.tmp t) = val j) → (execOp ev o).run P w1 = .ok (.value (val d)) w2)
    (h3 : ∀ o (ev : Operand → Value), ops[n]? = some o →
      (∀ j t, j < n → dst ops j = some t → t < N → ev (.tmp t) = val j) → (∀ t, ((List.range n).all fun j => dst ops j != some t) = true → ev (.tmp t) = a0.eval (.tmp t)) → val n = undef ∧ (execOp ev o).run P w2 = .ok .skip w3)
    (hend : Q .normal (canon ops a0 val ops.size) w3) : wpAny P .any ops Q ops.size (Array.replicate ops.size false) a0 w0 := by
  refine anyP val (AnyM.memC w0 [(n, w3), (d, w2), (c, w1)]) N hN hsh (by simp [AnyM.memC]) ?_ ?_
  · intro i o L w ev ho hLi hC haft hdc he1 he2 _ _
    have hi : i < n + 1 := by rw [← hn]; exact (Array.getElem?_eq_some_iff.1 ho).1
    have hLn : L n = false := last_no hl hdc hLi hi
    have hC' := hC
    simp only [AnyM.memC, hLn, Bool.false_eq_true, if_false] at hC
    have hup : ∀ {i k}, ops[i]? = some o → needs ops 3 i k = true → L k = true := fun {i k} ho' h => by
      unfold needs at h
      rw [ho'] at h
      obtain ⟨e, he, h1⟩ := List.any_eq_true.1 h
      simp only [Bool.and_eq_true, Bool.or_eq_true, beq_iff_eq] at h1
      have h2 := haft e (by simpa using he) h1.1
      rcases h1.2 with rfl | h3
      · exact h2
      · exact needs_on hdc h3 h2
    by_cases e1 : i = n
    · subst e1
      have hd := hup ho (List.all_eq_true.1 hl d (List.mem_range.2 hcd.2))
      rw [if_pos hd] at hC
      obtain ⟨q1, q2⟩ := h3 o ev ho he1 he2
      rw [hC]
      exact gives_skip q2 ⟨q1.symm, by simp [AnyM.memC, updB]⟩
    · have en : updB L i n = false := (if_neg (fun h => e1 h.symm)).trans hLn
      by_cases e2 : i = d
      · subst e2
        rw [if_neg (by rw [hLi]; simp), if_pos (hup ho hdc')] at hC
        rw [hC]
        refine gives_value (h2 o ev ho he1) ⟨rfl, ?_⟩
        simp [AnyM.memC, en, show updB L i i = true from if_pos rfl]
      · have ed : updB L i d = L d := if_neg (fun h => e2 h.symm)
        by_cases e3 : i = c
        · subst e3
          have hLd : L d = false := by
            cases h : L d with
            | false => rfl
            | true => rw [needs_on hdc hdc' h] at hLi; cases hLi
          rw [hLd, if_neg (by simp), if_neg (by rw [hLi]; simp)] at hC
          rw [hC]
          refine gives_value (h1 o ev ho he1) ⟨rfl, ?_⟩
          simp [AnyM.memC, en, ed, hLd, show updB L i i = true from if_pos rfl]
        · exact AnyM.gv hC' (hstep i o w ev ho (by omega) e3 e2 (by split at hC; exact .inr (.inr hC); split at hC; exact .inr (.inl hC); exact .inl hC) he1 he2) (by simp; exact ⟨fun h => e1 h.symm, fun h => e2 h.symm, fun h => e3 h.symm⟩)
  · intro L w hall hC
    simp only [AnyM.memC, hall n (by omega), if_true] at hC
    rw [hC]
    exact hend
end AnyOrd
end Go.Proofs.YtodlejemkihjnaaDoor

/-
  The shape of a list of lists.
-/
namespace Go.Proofs.YtodlejemkihjnaaDoor
open Go.RowKit

theorem row_form {w : World} {B : Nat} {v : Value} {vs : List Value} {ls : List (List Int)} (h : RowsZ w B v vs ls) (hn : 0 < ls.length) : ∃ g c, v = .slice (some ⟨g, 0, none⟩) ls.length c := by
  rcases h.outer.2 with ⟨rfl, h0⟩ | ⟨g, cap, cur, rfl, _⟩
  · omega
  · exact ⟨g, cap, rfl⟩
theorem row_shape {w : World} {B : Nat} {v : Value} {vs : List Value} {ls : List (List Int)} (h : RowsZ w B v vs ls) : ∃ ao c, v = .slice ao ls.length c := by
  rcases h.outer.2 with ⟨rfl, h0⟩ | ⟨g, cap, cur, rfl, _⟩
  · exact ⟨none, 0, by rw [h0]⟩
  · exact ⟨_, cap, rfl⟩

end Go.Proofs.YtodlejemkihjnaaDoor
