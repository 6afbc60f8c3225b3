/-
  Operations that only make memory, for regions in any order: an empty list, a field, what lies there, a copy.
-/
import Derived.Test.YtmgoahbloppdmaaGreatMg10
import Derived.Test.YtmgoahbloppdmaaGreatMg20
namespace Go.Proofs.YtmgoahbloppdmaaGreat
open Go.RowKit AnyOrd

/-- What an empty list is. -/
def newSp : OpSpec := ⟨[], fun v _ lo hi w => v = .slice (some ⟨lo, 0, none⟩) 0 0 ∧ lo < hi ∧ w.heap[lo]? = some (.cells #[] 3 (0, 0))⟩
/-- Where a field lies. -/
def fldSp (b k : Nat) : OpSpec := ⟨[], fun v _ _ _ _ => v = .pointer (some ⟨b, k, none⟩)⟩
/-- What lies there. -/
def lodSp (j : Nat) (x : Value) : OpSpec := ⟨[j], fun v _ _ _ _ => v = x⟩
/-- A copy. -/
def cpySp (i j B : Nat) (l : List Int) : OpSpec := ⟨[i, j], fun v vs lo hi w => ∃ g c b y, v = .slice (some ⟨g, 0, none⟩) l.length c ∧ vs = [.slice (some ⟨b, 0, none⟩) 0 0, y] ∧ (g = b ∨ (lo ≤ g ∧ g < hi)) ∧ OwnZ w B v l⟩

def fcSpec (b B : Nat) (f : For) (s : Df.St) : Nat → OpSpec
  | 0 => newSp
  | 1 => fldSp b 0
  | 2 => lodSp 1 (.slice f.a1 s.par.length f.c1)
  | 3 => cpySp 0 2 B s.par
  | 4 => newSp
  | 5 => fldSp b 1
  | 6 => lodSp 5 (.slice f.a2 s.hei.length f.c2)
  | 7 => cpySp 4 6 B s.hei
  | 8 => newSp
  | 9 => fldSp b 2
  | 10 => lodSp 9 (.slice f.a3 s.ord.length f.c3)
  | 11 => cpySp 8 10 B s.ord
  | 12 => newSp
  | 13 => fldSp b 3
  | 14 => lodSp 13 (.slice f.a4 s.ori.length f.c4)
  | 15 => cpySp 12 14 B s.ori
  | _ => ⟨[3, 7, 11, 15], fun v vs _ _ _ => ∃ x1 x2 x3 x4, vs = [x1, x2, x3, x4] ∧ v = .agg #[x1, x2, x3, x4]⟩

theorem newSp.stab {v : Value} {vs : List Value} {lo hi : Nat} {w w' : World} (hh : hi ≤ w.heap.size) (hb : Below w.heap.size w w') (h : newSp.post v vs lo hi w) : newSp.post v vs lo hi w' :=
  ⟨h.1, h.2.1, (hb.block lo (Nat.lt_of_lt_of_le h.2.1 hh)).trans h.2.2⟩
theorem cpySp.stab {i j B : Nat} {l : List Int} {v : Value} {vs : List Value} {lo hi : Nat} {w w' : World} (hb : Below w.heap.size w w') (h : (cpySp i j B l).post v vs lo hi w) : (cpySp i j B l).post v vs lo hi w' := by
  obtain ⟨g, c, b, y, h1, h2, h3, h4⟩ := h
  exact ⟨g, c, b, y, h1, h2, h3, h4.later hb⟩

theorem gives_copy {i j B lo n ca : Nat} {l : List Int} {t a b : Tmp} {ps : String} {af : Array Edge} {ev : Operand → Value} {U : World} {x y : Value} {ao : Option Addr} (ha : ev (.tmp a) = x) (hb : ev (.tmp b) = y) (hx : x = .slice (some ⟨lo, 0, none⟩) 0 0) (hblk : U.heap[lo]? = some (.cells #[] 3 (0, 0))) (hB : B ≤ lo) (hy : y = .slice ao n ca) (hl : Lst U ao n ca l) (hn : n ≤ 17592186043904) :
    Gives Tryz.prog { dst := some t, op := .call { callee := .builtin .append, args := #[.tmp a, .tmp b], argTypes := #[25, 25] }, type := 25, pos := ps, after := af, guard := none } ev U fun v w' => Below U.heap.size U w' ∧ (cpySp i j B l).post v [x, y] U.heap.size w'.heap.size w' := by
  obtain ⟨g, c, w', hrun, h1, h2, h3, h4⟩ := run_copyI 25 U lo ao n ca l hblk hl hn
  have hlen := hl.len
  subst hlen
  refine gives_value (v := .slice (some ⟨g, 0, none⟩) l.length c) (w' := w') ?_ ⟨h4, g, c, lo, y, rfl, by rw [hx], ?_, h2 B hB⟩
  · simp [execOp, resolve, invoke, builtin, ha, hb, hx, hy, hrun, Result.andThen]
  · rcases h1 with h1 | h1
    · exact .inl h1
    · exact .inr ⟨h1, h3⟩

theorem gives_store4 {t1 t2 : Tmp} {ty : TypeId} {ps : String} {af : Array Edge} {ev : Operand → Value} {V : World} {R x1 x2 x3 x4 l1 l2 l3 l4 d1 d2 d3 d4 : Nat} {y1 y2 y3 y4 : Value} (h1 : ev (.tmp t1) = .pointer (some ⟨R, 0, none⟩)) (h2 : ev (.tmp t2) = .agg #[.slice (some ⟨x1, 0, none⟩) l1 d1, .slice (some ⟨x2, 0, none⟩) l2 d2, .slice (some ⟨x3, 0, none⟩) l3 d3, .slice (some ⟨x4, 0, none⟩) l4 d4])
    (hb : V.heap[R]? = some (.cells #[y1, y2, y3, y4] 27 (0, 0))) :
    Gives Tryz.prog { dst := none, op := .store 27 (.tmp t1) (.tmp t2), type := ty, pos := ps, after := af, guard := none } ev V fun _ w' => w' = put4 V R (.slice (some ⟨x1, 0, none⟩) l1 d1) (.slice (some ⟨x2, 0, none⟩) l2 d2) (.slice (some ⟨x3, 0, none⟩) l3 d3) (.slice (some ⟨x4, 0, none⟩) l4 d4) := by
  obtain ⟨k0, k1, k2, k3, kf⟩ := four_cells hb
  refine gives_skip ?_ rfl
  unfold put4
  simp [execOp, go_sem, h1, h2, k0, k1, k2, k3, kf]

end Go.Proofs.YtmgoahbloppdmaaGreat
