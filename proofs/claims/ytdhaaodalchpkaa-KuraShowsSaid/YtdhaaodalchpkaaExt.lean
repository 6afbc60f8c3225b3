/-
  A list of one's own and another one behind it.
-/
import Derived.Test.YtdhaaodalchpkaaLst
import Derived.Laws.AppendOwn
import Derived.Laws.AppendOwnNone
namespace Go.Proofs.Ytdhaaodalchpkaa
open Go.RowKit

/-- 'append(v, xs...)', v a list of one's own. -/
theorem wpList_extend {ops : Array Oper} {rest : List Oper} {o : Oper} {a : Act} {Q : Exit → Act → World → Prop} (hgd : o.guard = none) (s x : Operand)
    (ho : o.op = .call { callee := .builtin .append, args := #[s, x], argTypes := #[36, 36] }) (W : World) (B : Nat) (v : Value) (l xs : List Int) (hown : OwnZ W B v l) (xo : Option Addr) (xn xc : Nat) (hx0 : Lst W xo xn xc xs)
    (hB : B ≤ W.heap.size) (hl : l.length + xs.length ≤ 17592186044000) (hs : a.eval s = v) (hx : a.eval x = .slice xo xn xc)
    (h : ∀ v' w', OwnZ w' B v' (l ++ xs) → Below B W w' → wpList Try.prog ops Q rest (a.put o.dst v') w') :
    wpList Try.prog ops Q (o :: rest) a W := by
  obtain ⟨i0, hi, hz0, hz1, hz2⟩ := info_parts Try.infoNum
  rcases xo with _ | y
  · obtain ⟨rfl, rfl⟩ := hx0.none rfl
    have e : xs = [] := List.length_eq_zero_iff.1 hx0.len
    subst e
    refine wpList_append_own_none hgd s x 36 ho B 3 i0 1 Try.underlying36 hi v l.length (l.map (Value.int .i64)) hs hown hx ?_
    exact h v W (by rw [List.append_nil]; exact hown) (Below.refl _ _)
  · have hxl := hx0.len
    refine wpList_append_own W hgd s x 36 ho B 3 i0 (.int .i64 0) 1 8 Try.underlying36 hi hz0 hz1 hz2 rfl (by decide) v l.length (l.map (Value.int .i64)) hs hown y xn xc (xs.map (Value.int .i64)) hx (by rw [List.length_map, hx0.len]; omega) ?_ (ints_oneCell .i64 _) (by unfold maxLen; omega) (by omega) hB ?_
    · intro j u hj
      rw [List.getElem?_map] at hj
      cases hlj : xs[j]? with
      | none => rw [hlj] at hj; cases hj
      | some z =>
        rw [hlj] at hj
        obtain rfl := Option.some.inj hj
        obtain ⟨b, o', e, hc⟩ := hx0.ints j z hlj
        cases e
        have ea : ((⟨b, o', none⟩ : Addr).add j) = ⟨b, o' + j, none⟩ := by
          by_cases h0 : j = 0 <;> simp [Addr.add, h0]
        rw [ea]
        exact hc
    · intro v' w' hown' hg _
      refine h v' w' ?_ ((Below.refl B W).grown hg hB (fun b hb => (World.ownsRow.lt hown b hb).1))
      unfold OwnZ
      rw [List.length_append, List.map_append, hxl]
      exact hown'

end Go.Proofs.Ytdhaaodalchpkaa
