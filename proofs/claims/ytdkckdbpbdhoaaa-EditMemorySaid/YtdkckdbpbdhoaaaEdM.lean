/-
  Graphs out of graphs: what a call answers; the small functions.
-/
import Derived.Test.YtdkckdbpbdhoaaaMgA
import Derived.Test.YtdkckdbpbdhoaaaSiOwn
import Derived.Test.YtdkckdbpbdhoaaaSiValid
import Derived.Test.YtdkckdbpbdhoaaaBlPu
import Derived.Deep.QuietTactic
import Derived.BigQuiet
namespace Go.Proofs.Ytdkckdbpbdhoaaa
open Go.RowKit Go.Sort

/-- A graph and an error's number are answered, the graph's edges in new memory. -/
def AnsP (r : Ed.Ans) (w : World) (e : Ending) (w' : World) : Prop :=
  ∃ v, e = .returned (.tuple #[.agg #[.int .i64 r.1, v], .int .i64 r.2.2]) ∧ OwnE w' w.heap.size v r.2.1 ∧ Below w.heap.size w w'

theorem AnsP.from {r : Ed.Ans} {w w1 w' : World} {e : Ending} (h : AnsP r w1 e w') (hb : Below w.heap.size w w1) : AnsP r w e w' := by
  obtain ⟨v, h1, h2, h3⟩ := h
  exact ⟨v, h1, h2.lower hb.size, hb.trans (h3.mono hb.size)⟩

set_option maxRecDepth 100000 in
theorem refuse_any (c : Int) (w : World) : Calls Try.prog 36 #[.int .i64 c] w fun e w' => e = .returned (.tuple #[.agg #[.int .i64 0, .slice none 0 0], .int .i64 c]) ∧ Below w.heap.size w w' := by
  go_enter Try.func36, Try.ntmps36
  go_wp2
  refine bodyPost_ret (v := .tuple #[.agg #[.int .i64 0, .slice none 0 0], .int .i64 c]) (by simp [results, Try.results36, go_sem]) rfl ?_
  exact ⟨rfl, by first | exact (((Below.refl _ _).alloc (Nat.le_refl _) _).setCell (by simp) _).setCell (by simp) _ | exact (Below.refl _ _).alloc (Nat.le_refl _) _⟩

theorem isnum_yes {x c : Int} (h0 : 0 ≤ x) (h1 : x < c) (w : World) : Calls Try.prog 37 #[.int .i64 x, .int .i64 c] w fun e w' => e = .returned (.bool true) ∧ w' = w := by
  go_enter Try.func37, Try.ntmps37
  go_wp2
  go_ret
  exact ⟨rfl, rfl⟩

theorem isnum_no {x c : Int} (h : x < 0 ∨ c ≤ x) (w : World) : Calls Try.prog 37 #[.int .i64 x, .int .i64 c] w fun e w' => e = .returned (.bool false) ∧ w' = w := by
  by_cases h0 : 0 ≤ x
  · have h1 : ¬ x < c := by omega
    clear h
    go_enter Try.func37, Try.ntmps37
    go_wp2
    go_ret
    exact ⟨rfl, rfl⟩
  · clear h
    go_enter Try.func37, Try.ntmps37
    go_wp2
    go_ret
    exact ⟨rfl, rfl⟩

set_option maxRecDepth 100000 in
set_option maxHeartbeats 4000000 in
theorem ecompare_any (a b : Int × Int) (w : World) : Calls Try.prog 53 #[edgeVal a, edgeVal b] w fun e w' => e = .returned (.int .i64 (Si.cf a b)) ∧ ∃ q os', w' = grow (w.drewN q) os' := by
  rw [cf_or]
  unfold edgeVal
  go_enter Try.func53, Try.ntmps53
  go_wp2
  go_region_held3 (fun w' => w'.cell? ⟨w.heap.size, 0, none⟩ = some (.int .i64 a.1) ∧ w'.cell? ⟨w.heap.size, 1, none⟩ = some (.int .i64 a.2) ∧ w'.cell? ⟨w.heap.size + 1, 0, none⟩ = some (.int .i64 b.1) ∧ w'.cell? ⟨w.heap.size + 1, 1, none⟩ = some (.int .i64 b.2))
    (go_keep)
    (first
      | (go_at_call 57; refine (cmpInt_any _ _ _).mono ?_; rintro e w' ⟨rfl, rfl⟩)
      | (go_at_call 56; refine (or_any (Si.cmpInt a.1 b.1) (Si.cmpInt a.2 b.2) _ _ (new2d _ _ (size2 _ _ _) _ _ _).1 (new2d _ _ (size2 _ _ _) _ _ _).2).mono ?_; rintro e w' ⟨rfl, rfl⟩))
  go_wp2
  go_ret
  exact ⟨rfl, 1, _, by rw [alloc_eq_grow, alloc_eq_grow, grow_grow, alloc_eq_grow, grow_grow]; rfl⟩

end Go.Proofs.Ytdkckdbpbdhoaaa
