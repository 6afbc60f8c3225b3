/-
  A graph and a forest, copied; both Valids of them.
-/
import Derived.Test.YtponmjipbcmlhaaDfRVal
import Derived.Test.YtponmjipbcmlhaaDfVal
import Derived.Test.YtponmjipbcmlhaaDfCopy
import Derived.Test.YtponmjipbcmlhaaCsRef
namespace Go.Proofs.Ytponmjipbcmlhaa
open Go.RowKit Go.Sort

/-- A copy of a forest lies somewhere. -/
theorem copyF_at (f : For) (s : Df.St) (w : World) (h : LstF w f s) :
    Calls Try.prog 16 #[.agg #[.slice f.a1 s.par.length f.c1, .slice f.a2 s.hei.length f.c2, .slice f.a3 s.ord.length f.c3, .slice f.a4 s.ori.length f.c4]] w fun e w' => ∃ a1 a2 a3 a4 c1 c2 c3 c4, e = .returned (.agg #[.slice a1 s.par.length c1, .slice a2 s.hei.length c2, .slice a3 s.ord.length c3, .slice a4 s.ori.length c4]) ∧ LstF w' ⟨a1, a2, a3, a4, c1, c2, c3, c4⟩ s ∧ Below w.heap.size w w' := by
  refine (copyF_any f s w h).mono ?_
  rintro e w' ⟨v1, v2, v3, v4, rfl, hown, hb⟩
  obtain ⟨g, rfl, rfl, rfl, rfl, hl⟩ := hown.lst ⟨h.n1, h.n2, h.n3, h.n4⟩
  exact ⟨g.a1, g.a2, g.a3, g.a4, g.c1, g.c2, g.c3, g.c4, rfl, hl, hb⟩

/-- A copy of a graph lies somewhere. -/
theorem copyG_at (n : Int) (ao : Option Addr) (ca : Nat) (es : List (Int × Int)) (w : World) (he : EdgesAt w ao es) (hn : ao = none → ca = 0) (hl : es.length * 16 ≤ 140737488355328) :
    Calls Try.prog 15 #[.agg #[.int .i64 n, .slice ao es.length ca]] w fun e w' => ∃ gb c, e = .returned (.agg #[.int .i64 n, .slice (some ⟨gb, 0, none⟩) es.length c]) ∧ EdgesAt w' (some ⟨gb, 0, none⟩) es ∧ Below w.heap.size w w' := by
  have h := r4copy_any n ao ca es w he hn hl
  unfold graphVal at h
  refine h.mono ?_
  rintro e w' ⟨gb, c, rfl, how, hb⟩
  obtain ⟨ao', cap', e, _, _, hat, _⟩ := how.form
  cases e
  exact ⟨gb, c, rfl, hat, hb⟩

end Go.Proofs.Ytponmjipbcmlhaa
