/-
  Lists of edges in memory that a call makes itself.
-/
import Derived.Test.YtdkckdbpbdhoaaaSiMem
import Derived.Laws.AppendOwnNone
import Derived.Deep.AppendLies
namespace Go.Proofs.Ytdkckdbpbdhoaaa
open Go.RowKit

theorem Try.infoEdge : (Try.prog.info? 26).map (fun i => (i.zero, i.size, i.bytes)) = some (some (.agg #[.int .i64 0, .int .i64 0]), 2, 16) := by kernel_rfl

def flatE (ps : List (Int × Int)) : List Value := ps.flatMap fun p => [.int .i64 p.1, .int .i64 p.2]

theorem flatE_snoc (ps : List (Int × Int)) (p : Int × Int) : flatE (ps ++ [p]) = flatE ps ++ [.int .i64 p.1, .int .i64 p.2] := by simp [flatE]

theorem flatE_length : ∀ ps : List (Int × Int), (flatE ps).length = ps.length * 2
  | [] => rfl
  | p :: ps => by
    have := flatE_length ps
    simp [flatE] at this ⊢
    omega

theorem flatE_at : ∀ (ps : List (Int × Int)) (j : Nat) (p : Int × Int), ps[j]? = some p → (flatE ps)[j * 2]? = some (.int .i64 p.1) ∧ (flatE ps)[j * 2 + 1]? = some (.int .i64 p.2)
  | [], j, p, h => by simp at h
  | q :: ps, 0, p, h => by
    simp at h
    subst h
    simp [flatE]
  | q :: ps, j + 1, p, h => by
    simp at h
    have := flatE_at ps j p h
    have e : (j + 1) * 2 = j * 2 + 1 + 1 := by omega
    rw [e]
    simpa [flatE] using this

theorem addrE (g j : Nat) : ((⟨g, 0, none⟩ : Addr).add j) = ⟨g, j, none⟩ := by
  by_cases h : j = 0
  · simp [Addr.add, h]
  · simp [Addr.add, h]

/-- v is a slice of the edges es, laid since block B. -/
def OwnE (w : World) (B : Nat) (v : Value) (es : List (Int × Int)) : Prop := w.ownsRow B 26 2 v es.length (flatE es)

theorem OwnE.form {w : World} {B : Nat} {v : Value} {es : List (Int × Int)} (h : OwnE w B v es) : ∃ ao cap, v = .slice ao es.length cap ∧ es.length ≤ cap ∧ cap ≤ maxLen ∧ EdgesAt w ao es ∧ (∀ x, ao = some x → B ≤ x.block ∧ x.block < w.heap.size) := by
  have h' := h
  unfold OwnE at h'
  rcases h.2 with ⟨rfl, h0⟩ | ⟨g, cap, cur, rfl, hg, hh, hc, hm, _⟩
  · refine ⟨none, 0, by rw [h0], by omega, Nat.zero_le _, fun j p hj => ?_, fun x h => by cases h⟩
    rw [List.length_eq_zero_iff.1 h0] at hj
    simp at hj
  · refine ⟨_, cap, rfl, hc, hm, fun j p hj => ⟨g, 0, rfl, ?_⟩, fun x h => by cases h; exact ⟨hg, lt_of_block hh⟩⟩
    have hcl := World.ownsRow.cells h' (g := g) rfl
    simp only [addrE] at hcl
    obtain ⟨h0, h1⟩ := flatE_at es j p hj
    rw [Nat.zero_add]
    exact ⟨hcl _ _ h0, hcl _ _ h1⟩

theorem OwnE.below {w w' : World} {B A : Nat} {v : Value} {ps : List (Int × Int)} (h : OwnE w B v ps) (hb : Below A w w') (hA : w.heap.size ≤ A) : OwnE w' B v ps := by
  refine ⟨h.1, ?_⟩
  rcases h.2 with h | ⟨g, cap, cur, e, hgB, hh, hr⟩
  · exact .inl h
  · exact .inr ⟨g, cap, cur, e, hgB, (hb.block g (by have := lt_of_block hh; omega)).trans hh, hr⟩

theorem OwnE.alloc {w : World} {B : Nat} {v : Value} {ps : List (Int × Int)} (h : OwnE w B v ps) (o : Obj) : OwnE (w.alloc o) B v ps := World.ownsRow.alloc h o

theorem OwnE.some {w : World} {B : Nat} {v : Value} {es : List (Int × Int)} (h : OwnE w B v es) (hn : v ≠ .slice none 0 0) : ∃ g cap, v = .slice (some ⟨g, 0, none⟩) es.length cap := by
  rcases h.2 with ⟨rfl, _⟩ | ⟨g, cap, cur, rfl, _⟩
  · exact absurd rfl hn
  · exact ⟨g, cap, rfl⟩

theorem OwnE.far {w : World} {B b : Nat} {v : Value} {ps : List (Int × Int)} (h : OwnE w B v ps) (hb : b < B) : v.ownBlock ≠ Option.some b := by
  obtain ⟨ao, cap, rfl, _, _, _, hx⟩ := h.form
  cases ao with
  | none => simp [Value.ownBlock]
  | some x => have := hx x rfl; simp [Value.ownBlock]; omega

/-- Stores into another block leave it; it may be said of an earlier block. -/
theorem OwnE.set2 {w : World} {B A b : Nat} {v : Value} {ps : List (Int × Int)} (h : OwnE w B v ps) (hA : A ≤ b ∧ b < B) (x y : Value) : OwnE ((w.setCell ⟨b, 0, none⟩ x).setCell ⟨b, 1, none⟩ y) A v ps := by
  refine ⟨h.1, ?_⟩
  rcases h.2 with h | ⟨g, cap, cur, e, hgB, hh, hr⟩
  · exact .inl h
  · refine .inr ⟨g, cap, cur, e, by omega, ?_, hr⟩
    rw [heap_setCell_other _ ⟨b, 1, none⟩ g y (by simp; omega), heap_setCell_other _ ⟨b, 0, none⟩ g x (by simp; omega)]
    exact hh

theorem OwnE.lower {w : World} {B A : Nat} {v : Value} {ps : List (Int × Int)} (h : OwnE w B v ps) (hA : A ≤ B) : OwnE w A v ps := by
  refine ⟨h.1, ?_⟩
  rcases h.2 with h | ⟨g, cap, cur, e, hgB, hh, hr⟩
  · exact .inl h
  · exact .inr ⟨g, cap, cur, e, by omega, hh, hr⟩

theorem OwnE.nil (w : World) (B : Nat) : OwnE w B (.slice none 0 0) [] := World.ownsRow_nil _ _ _ _

theorem new_two_e (W : World) (k : Nat) (hk : W.heap.size = k) (a b : Value) (t : TypeId) : ∀ j u, [a, b][j]? = some u → (W.alloc (.cells #[a, b] t)).cell? ((⟨k, 0, none⟩ : Addr).add j) = some u := by
  subst hk
  exact World.news_of_block (cs := #[a, b]) (t := t) (fr := (0, 0)) (heap_alloc_new W _)

end Go.Proofs.Ytdkckdbpbdhoaaa
