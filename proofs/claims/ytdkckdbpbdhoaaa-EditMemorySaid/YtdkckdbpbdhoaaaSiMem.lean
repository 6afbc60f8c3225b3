/-
  Edges and graphs in memory.
-/
import Derived.Test.YtdkckdbpbdhoaaaSiSmall
namespace Go.Proofs.Ytdkckdbpbdhoaaa
open Go.RowKit

/-- The edges es lie at ao. -/
def EdgesAt (w : World) (ao : Option Addr) (es : List (Int × Int)) : Prop :=
  ∀ (j : Nat) (p : Int × Int), es[j]? = some p → ∃ b o : Nat, ao = some ⟨b, o, none⟩ ∧ w.cell? ⟨b, o + j * 2, none⟩ = some (.int .i64 p.1) ∧ w.cell? ⟨b, o + j * 2 + 1, none⟩ = some (.int .i64 p.2)

theorem EdgesAt.later {w w' : World} {ao : Option Addr} {es : List (Int × Int)} (h : EdgesAt w ao es) (hb : Below w.heap.size w w') : EdgesAt w' ao es := fun j p hj => by
  obtain ⟨b, o, e, h0, h1⟩ := h j p hj
  exact ⟨b, o, e, (hb.cell (p := ⟨b, o + j * 2, none⟩) (block_lt_of_cell h0)).trans h0, (hb.cell (p := ⟨b, o + j * 2 + 1, none⟩) (block_lt_of_cell h1)).trans h1⟩

theorem EdgesAt.nil (w : World) (ao : Option Addr) : EdgesAt w ao [] := fun j p hj => by simp at hj

/-- A graph as a value. -/
def graphVal (n : Int) (ao : Option Addr) (len cap : Nat) : Value := .agg #[.int .i64 n, .slice ao len cap]

end Go.Proofs.Ytdkckdbpbdhoaaa
