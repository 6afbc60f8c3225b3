/-
  Forests that came in.
-/
import Derived.Test.YtponmjipbcmlhaaDfFor
import Derived.Test.YtponmjipbcmlhaaSiGin
namespace Go.Proofs.Ytponmjipbcmlhaa
open Go.ChangeShapes Go.WideShapes Go.ChangeAt Go.RowKit

theorem cellsForest : Try.prog.cellsOf 28 = 4 := by kernel_rfl
theorem cellsInts : Try.prog.cellsOf 26 = 1 := by kernel_rfl

/-- The numbers are ints. -/
def In64L (l : List Int) : Prop := ∀ x ∈ l, -9223372036854775808 ≤ x ∧ x ≤ 9223372036854775807
/-- All four lists are. -/
def In64F (s : Df.St) : Prop := In64L s.par ∧ In64L s.hei ∧ In64L s.ord ∧ In64L s.ori

section
variable {H : Type} {enc : TypeId × Value → H} {W : World}

theorem ints_in {fuel : Nat} {v : Value} {y : DataW H × List MemPlace} (h : DataW.trod enc Try.prog W 0 (fun _ => true) true fuel 26 [v] = some y) :
    ∃ (a : Option Addr) (cap : Nat) (l : List Int), v = .slice a l.length cap ∧ Lst W a l.length cap l ∧ In64L l ∧ ((y.1 = .nil ∧ l = []) ∨ ∃ es rest, y.1 = .slice es rest ∧ l.length ≤ es.length) := by
  rcases open_ints Try.underlying26 Try.underlying3 cellsInt h with ⟨hcs, hy⟩ | ⟨x, l, c, zs, hcs, _, hl, hm, hz, hx, hcell, hwz⟩
  · simp at hcs
    subst hcs
    exact ⟨none, 0, [], rfl, ⟨rfl, IntsAt.nil _ _, fun _ => ⟨rfl, rfl⟩⟩, fun x hx => by simp at hx, .inl ⟨by rw [hy], rfl⟩⟩
  · simp at hcs
    subst hcs
    have hz' : zs.length = c := by simpa using hz
    have hlen : (zs.take l).length = l := by simp; omega
    have hr : IsRow .i64 0 W (some x) l c zs := .inr ⟨x, rfl, hl, by omega, hz', hcell, hwz⟩
    refine ⟨some x, c, zs.take l, by rw [hlen], ?_, fun q hq => ?_, .inr ?_⟩
    · rw [hlen]
      refine ⟨hlen, fun j z hj => ?_, fun e => by cases e⟩
      rw [List.getElem?_take] at hj
      by_cases hjl : j < l
      · rw [if_pos hjl] at hj
        have hlt : j < zs.length := by omega
        have hci := hcell j hlt
        rw [List.getD_eq_getElem?_getD, hj] at hci
        obtain ⟨b, o, sp⟩ := x
        have hsp : sp = none := by simpa [Addr.add] using World.cell?_spot (hcell 0 (by omega))
        subst hsp
        refine ⟨b, o, rfl, ?_⟩
        have e : ((⟨b, o, none⟩ : Addr).add j) = ⟨b, o + j, none⟩ := by
          by_cases h0 : j = 0 <;> simp [Addr.add, h0]
        rw [e] at hci
        exact hci
      · rw [if_neg hjl] at hj
        cases hj
    · exact wf_i64 (hwz q (List.mem_of_mem_take hq))
    · refine ⟨_, _, by rw [hx], ?_⟩
      simp [lits]

/-- Four lists, read. -/
theorem four_lists {e : TypeId} {f0 f1 f2 f3 : Field} (he : Try.prog.underlying e = some (.struct #[f0, f1, f2, f3])) (o0 : f0.offset = 0) (o1 : f1.offset = 1) (o2 : f2.offset = 2) (o3 : f3.offset = 3) (t0 : f0.type = 26) (t1 : f1.type = 26) (t2 : f2.type = 26) (t3 : f3.type = 26)
    {fuel : Nat} {u1 u2 u3 u4 : Value} {x : DataW H × List MemPlace} (h : DataW.trod enc Try.prog W 0 (fun _ => true) true fuel e [u1, u2, u3, u4] = some x) :
    ∃ (m : Nat) (y1 y2 y3 y4 : DataW H × List MemPlace), DataW.trod enc Try.prog W 0 (fun _ => true) true m 26 [u1] = some y1 ∧ DataW.trod enc Try.prog W 0 (fun _ => true) true m 26 [u2] = some y2 ∧ DataW.trod enc Try.prog W 0 (fun _ => true) true m 26 [u3] = some y3 ∧ DataW.trod enc Try.prog W 0 (fun _ => true) true m 26 [u4] = some y4 ∧ x.1 = .agg [y1.1, y2.1, y3.1, y4.1] := by
  obtain ⟨xs, m, _, hxx, hl, hx, hf⟩ := DataW.trod_struct he h
  match xs, hx with
  | [y1, y2, y3, y4], _ =>
    have g0 := hf 0 f0 rfl
    have g1 := hf 1 f1 rfl
    have g2 := hf 2 f2 rfl
    have g3 := hf 3 f3 rfl
    simp only [o0, o1, o2, o3, t0, t1, t2, t3, cellsInts] at g0 g1 g2 g3
    exact ⟨m, y1, y2, y3, y4, by simpa using g0, by simpa using g1, by simpa using g2, by simpa using g3, by rw [hxx]; rfl⟩

set_option maxRecDepth 100000 in
/-- A forest that came in. -/
theorem forest_of_trod {base : Nat} {v : Value} {d : DataW H} {p : List MemPlace} {ts : List TypeId} {ds : List (DataW H)} {j : Nat} (hval : Value.okWide Try.prog W .any base 28 v)
    (h : DataW.Trod enc Try.prog W 0 (fun _ => true) true 28 v d p) (hsz : (DataW.weightsEach Try.prog ts ds).all (· ≤ reachBytes) = true) (hts : ts[j]? = some 28) (hds : ds[j]? = some d) :
    ∃ (f : For) (s : Df.St), v = f.val s ∧ LstF W f s ∧ In64F s := by
  obtain ⟨cs, rfl, hcs⟩ := okWide_struct Try.underlying28 hval
  rw [cellsForest] at hcs
  obtain ⟨fuel, hf⟩ := h
  obtain ⟨cl⟩ := cs
  match cl, hcs with
  | [u1, u2, u3, u4], _ =>
    obtain ⟨m, y1, y2, y3, y4, g1, g2, g3, g4, hde⟩ := four_lists Try.underlying28 rfl rfl rfl rfl rfl rfl rfl rfl hf
    dsimp only at hde
    obtain ⟨a1, c1, l1, rfl, k1, i1, w1⟩ := ints_in g1
    obtain ⟨a2, c2, l2, rfl, k2, i2, w2⟩ := ints_in g2
    obtain ⟨a3, c3, l3, rfl, k3, i3, w3⟩ := ints_in g3
    obtain ⟨a4, c4, l4, rfl, k4, i4, w4⟩ := ints_in g4
    have lim : ∀ (y : DataW H × List MemPlace) (l : List Int), y ∈ [y1, y2, y3, y4] → ((y.1 = .nil ∧ l = []) ∨ ∃ es rest, y.1 = .slice es rest ∧ l.length ≤ es.length) → l.length ≤ 17592186043904 := fun y l hy hw => by
      rcases hw with ⟨_, rfl⟩ | ⟨es, rest, e, hle⟩
      · simp
      · have hw := List.all_eq_true.1 hsz _ (DataW.weights_mem_each hts hds ((es.length + rest.length) * Try.prog.bytesOf 3) (by
          rw [hde]
          simp only [DataW.weights, Try.underlying28]
          simp only [List.mem_cons, List.not_mem_nil, or_false] at hy
          rcases hy with rfl | rfl | rfl | rfl <;> simp [DataW.weightsEach, DataW.weights, Try.underlying26, e]))
        rw [bytesInt] at hw
        have hw2 : (es.length + rest.length) * 8 ≤ reachBytes := of_decide_eq_true hw
        simp only [reachBytes] at hw2
        omega
    exact ⟨⟨a1, a2, a3, a4, c1, c2, c3, c4⟩, ⟨l1, l2, l3, l4⟩, rfl, ⟨k1, k2, k3, k4, lim y1 l1 (by simp) w1, lim y2 l2 (by simp) w2, lim y3 l3 (by simp) w3, lim y4 l4 (by simp) w4⟩, i1, i2, i3, i4⟩
end

end Go.Proofs.Ytponmjipbcmlhaa
