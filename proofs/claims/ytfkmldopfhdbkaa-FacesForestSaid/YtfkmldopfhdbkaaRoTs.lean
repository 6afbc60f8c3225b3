/-
  Lists that are turns of one another, list by list.
-/
import Derived.Test.YtfkmldopfhdbkaaRoK
import Derived.Test.YtfkmldopfhdbkaaMg09
namespace Go.Proofs.Ytfkmldopfhdbkaa
open Go.RowKit

/-- As many lists, each a turn of the other. -/
def Ro.Tns (ls ms : List (List Int)) : Prop := ls.length = ms.length ∧ ∀ (v : Nat) (x y : List Int), ls[v]? = some x → ms[v]? = some y → Ro.Tn x y

def TnPost (a b : List Int) (w : World) (e : Ending) (w' : World) : Prop := Below w.heap.size w w' ∧ ((Ro.Tn a b ∧ e = .returned (.bool true)) ∨ (¬ Ro.Tn a b ∧ e = .returned (.bool false)))
def TnsPost (a b : List (List Int)) (w : World) (e : Ending) (w' : World) : Prop := Below w.heap.size w w' ∧ ((Ro.Tns a b ∧ e = .returned (.bool true)) ∨ (¬ Ro.Tns a b ∧ e = .returned (.bool false)))

end Go.Proofs.Ytfkmldopfhdbkaa
