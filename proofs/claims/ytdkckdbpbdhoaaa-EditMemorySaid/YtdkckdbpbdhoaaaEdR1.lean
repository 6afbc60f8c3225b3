/-
  The document's own copies, order and put.
-/
import Derived.Test.YtdkckdbpbdhoaaaEdW1
import Derived.Laws.AppendOwnNone
namespace Go.Proofs.Ytdkckdbpbdhoaaa
open Go.RowKit Go.Sort

/-- A nil list is empty and has no room. -/
def NilOk (ao : Option Addr) (es : List (Int × Int)) (ca : Nat) : Prop := ao = none → es = [] ∧ ca = 0

/-- 'append([]api.Edge{}, xs...)': a copy in new memory. -/
theorem wpList_copyE {ops : Array Oper} {rest : List Oper} {o : Oper} {a : Act} {Q : Exit → Act → World → Prop} (hgd : o.guard = none) (s x : Operand)
    (ho : o.op = .call { callee := .builtin .append, args := #[s, x], argTypes := #[22, 22] }) (W : World) (ao : Option Addr) (n ca : Nat) (es : List (Int × Int)) (hn : es.length = n) (hs : a.eval s = .slice (some ⟨W.heap.size, 0, none⟩) 0 0) (hx : a.eval x = .slice ao n ca)
    (he : EdgesAt W ao es) (hnil : NilOk ao es ca) (hl : es.length * 16 ≤ 140737488351232)
    (h : ∀ v' w', OwnE w' W.heap.size v' es → Below W.heap.size W w' → wpList Try.prog ops Q rest (a.put o.dst v') w') :
    wpList Try.prog ops Q (o :: rest) a (W.alloc (.cells #[] 26)) := by
  obtain ⟨i0, hi, hz0, hz1, hz2⟩ := info_parts Try.infoEdge
  subst hn
  have hown0 : (W.alloc (.cells #[] 26)).ownsRow W.heap.size 26 2 (.slice (some ⟨W.heap.size, 0, none⟩) 0 0) 0 [] := World.ownsRow_made W #[] 0 (Nat.le_refl _) (Nat.zero_le _) rfl
  have hb0 : Below W.heap.size W (W.alloc (.cells #[] 26)) := (Below.refl _ _).alloc (Nat.le_refl _) _
  rcases ao with _ | y
  · obtain ⟨rfl, rfl⟩ := hnil rfl
    refine wpList_append_own_none hgd s x 22 ho W.heap.size 26 i0 2 Try.underlying22 hi _ 0 [] hs hown0 hx ?_
    exact h _ _ hown0 hb0
  · refine wpList_append_own _ hgd s x 22 ho W.heap.size 26 i0 (.agg #[.int .i64 0, .int .i64 0]) 2 16 Try.underlying22 hi hz0 hz1 hz2 rfl (by decide) _ 0 [] hs hown0 y es.length ca (flatE es) hx (flatE_length es) (edge_news (he.later hb0)) (flatE_oneCell es) (by unfold maxLen; omega) (by rw [Nat.zero_add]; omega) (by simp) ?_
    intro v' w' hown' hg _
    rw [Nat.zero_add, List.nil_append] at hown'
    exact h v' w' hown' (hb0.grown hg (by simp) (fun q hq => by cases hq; exact Nat.le_refl _))

set_option maxRecDepth 100000 in
set_option maxHeartbeats 4000000 in
theorem kept_any (ao : Option Addr) (n ca : Nat) (es : List (Int × Int)) (w : World) (hn : es.length = n) (he : EdgesAt w ao es) (hnil : NilOk ao es ca) (hl : es.length * 16 ≤ 140737488351232) :
    Calls Try.prog 39 #[.slice ao n ca] w fun e w' => ∃ a c, e = .returned (.slice a n c) ∧ OwnE w' w.heap.size (.slice a n c) es ∧ Below w.heap.size w w' := by
  have HE := Nu.hid he
  have HNIL := Nu.hid hnil
  have HN := Nu.hid hn
  clear he hnil hn
  go_enter Try.func39, Try.ntmps39
  go_wp2_with (at_builtin; refine wpList_copyE rfl _ _ rfl _ ao n ca es HN.out rfl rfl HE.out HNIL.out hl ?_; refine Hid.out ?_)
  refine Nu.hid ?_
  intro v' w' hown hb
  obtain ⟨a, c, e, -⟩ := hown.form
  subst e
  rw [HN.out] at hown ⊢
  have HOWN := Nu.hid hown
  have HB := Nu.hid hb
  clear hown hb
  go_wp2
  go_ret
  exact ⟨a, c, rfl, HOWN.out, HB.out⟩

set_option maxRecDepth 100000 in
set_option maxHeartbeats 4000000 in
theorem rcopy14_any (n : Int) (ao : Option Addr) (ca : Nat) (es : List (Int × Int)) (w : World) (he : EdgesAt w ao es) (hnil : NilOk ao es ca) (hl : es.length * 16 ≤ 140737488351232) :
    Calls Try.prog 11 #[graphVal n ao es.length ca] w fun e w' => ∃ a c, e = .returned (.agg #[.int .i64 n, .slice a es.length c]) ∧ OwnE w' w.heap.size (.slice a es.length c) es ∧ Below w.heap.size w w' := by
  have HE := Nu.hid he
  have hB0 := Bx1.start (w := w) (n := n) (ao := ao) (cap := ca) (es := es)
  have HB0 := Nu.hid hB0
  have hk := fun W (hb : Below w.heap.size w W) => kept_any ao es.length ca es W rfl (he.later hb) hnil hl
  have HK := Nu.hid hk
  unfold graphVal
  clear he hB0 hk
  go_enter Try.func11, Try.ntmps11
  go_wp2
  generalize ((w.alloc (.cells #[.int .i64 n, .slice ao es.length ca] 24)).alloc (.cells #[.int .i64 0, .slice none 0 0] 24)) = w1 at HB0 ⊢
  obtain ⟨g0, g1⟩ := HB0.out.cells
  have hs1 := HB0.out.size
  have hs0 : w.heap.size < w1.heap.size := by omega
  go_region_held3 (fun w' => w'.cell? ⟨w.heap.size, 0, none⟩ = some (.int .i64 n) ∧ w'.cell? ⟨w.heap.size, 1, none⟩ = some (.slice ao es.length ca))
    (first
      | (go_keep; done)
      | (go_split_ands
         (try dsimp only); (repeat' apply And.intro) <;> (refine (hb3.cell (p := ⟨_, _, none⟩) ?_).trans ?_ <;> first | assumption | (simp; omega)))
      | (go_split_ands; (try dsimp only); (repeat' apply And.intro) <;> (refine (cell_put2 ?_ _ _).trans ?_ <;> first | assumption | omega | (simp; done))))
    ((go_at_call 39; refine (HK.out _ HB0.out.low.drew).mono ?_; rintro e w3 ⟨va, vc, rfl, hown, hb3'⟩; have hb3 : Below w1.heap.size w1 w3 := (Below.refl w1.heap.size w1).drew.trans hb3'; have HB3 := Nu.hid (HB0.out.later hb3); obtain ⟨r0, r1⟩ := HB3.out.rcells; have f0 := HB3.out.free 0; have f1 := HB3.out.free 1))
  have HOWN : Hid (OwnE w3 w.heap.size (.slice va es.length vc) es) := hown.lower (by simp; omega)
  have HFAR := Nu.hid (hown.far (b := w.heap.size + 1) (by simp; omega))
  clear hown hb3 hb3'
  go_wp2
  obtain ⟨hb, s0, s1⟩ := HB3.out.store (.int .i64 n) (.slice va es.length vc)
  refine bodyPost_ret (v := .agg #[.int .i64 n, .slice va es.length vc]) (by simp [results, Try.results11, go_sem, s0, s1]) rfl ?_
  exact ⟨_, _, rfl, own_put2 HOWN.out HFAR.out _ _, hb⟩

end Go.Proofs.Ytdkckdbpbdhoaaa
