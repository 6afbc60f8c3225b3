/-
  A region that draws its order and whose operations only read, calls among them that only make memory: one walk serves every order.
-/
import Derived.Test.YtdhaaodalchpkaaWrd
import Derived.Deep.QuietTactic
import Derived.BigQuiet
namespace Go.Proofs.Ytdhaaodalchpkaa
open Go.RowKit

/-- A world in which there is w, and more. -/
structure LW (w : World) where
  val : World
  h : Below w.heap.size w val

theorem LW.any (w : World) : Nonempty (LW w) := ⟨⟨w, Below.refl _ _⟩⟩

theorem wp_region_lw {P : Program} {id : Nat} {Q : Exit → Act → World → Prop} {a : Act} {w : World} {l : List Oper} (hm : P.follows .mixedOrders = true) (hB : Region.lexB .any l.toArray = true)
    (h : wpQuiet P l.toArray (fun w' => ∃ D : LW w, w' = D.val) (fun a' => ∀ w', (∃ D : LW w, w' = D.val) → Q .normal a' w') l a) : (Code.region id l.toArray true).wp P Q a w :=
  wp_region_quiet (C := fun w' => ∃ D : LW w, w' = D.val) hm hB ⟨⟨w.drew, (Below.refl _ _).drew⟩, rfl⟩ (by simpa using h)

theorem Calls.lw {P : Program} {f : FuncId} {args : Array Value} {w : World} {D : LW w} {v : Value}
    (h : Calls P f args D.val fun e w' => e = .returned v ∧ Below D.val.heap.size D.val w') : Calls P f args D.val fun e w'' => e = .returned v ∧ ∃ D' : LW w, w'' = D'.val :=
  h.mono fun _ w' ⟨he, hb⟩ => ⟨he, ⟨w', D.h.trans (hb.mono D.h.size)⟩, rfl⟩

end Go.Proofs.Ytdhaaodalchpkaa
