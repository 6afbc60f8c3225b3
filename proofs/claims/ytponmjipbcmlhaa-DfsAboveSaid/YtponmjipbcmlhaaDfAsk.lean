/-
  A graph, a forest and two vertices that came in as one thing.
-/
import Derived.Test.YtponmjipbcmlhaaDfIn
namespace Go.Proofs.Ytponmjipbcmlhaa
open Go.ChangeShapes Go.WideShapes Go.ChangeAt Go.RowKit

theorem cellsAsk : Try.prog.cellsOf 42 = 8 := by kernel_rfl

section
variable {H : Type} {enc : TypeId × Value → H} {W : World}

/-- A struct of a graph, a forest and two numbers, read. -/
theorem four_parts {e : TypeId} {f0 f1 f2 f3 : Field} (he : Try.prog.underlying e = some (.struct #[f0, f1, f2, f3])) (o0 : f0.offset = 0) (o1 : f1.offset = 2) (o2 : f2.offset = 6) (o3 : f3.offset = 7) (t0 : f0.type = 24) (t1 : f1.type = 28) (t2 : f2.type = 3) (t3 : f3.type = 3)
    {fuel : Nat} {u0 u1 u2 u3 u4 u5 u6 u7 : Value} {x : DataW H × List MemPlace} (h : DataW.trod enc Try.prog W 0 (fun _ => true) true fuel e [u0, u1, u2, u3, u4, u5, u6, u7] = some x) :
    ∃ (m : Nat) (y1 y2 y3 y4 : DataW H × List MemPlace), DataW.trod enc Try.prog W 0 (fun _ => true) true m 24 [u0, u1] = some y1 ∧ DataW.trod enc Try.prog W 0 (fun _ => true) true m 28 [u2, u3, u4, u5] = some y2 ∧ DataW.trod enc Try.prog W 0 (fun _ => true) true m 3 [u6] = some y3 ∧ DataW.trod enc Try.prog W 0 (fun _ => true) true m 3 [u7] = some y4 ∧ x.1 = .agg [y1.1, y2.1, y3.1, y4.1] := by
  obtain ⟨xs, m, _, hxx, hl, hx, hf⟩ := DataW.trod_struct he h
  match xs, hx with
  | [y1, y2, y3, y4], _ =>
    have g0 := hf 0 f0 rfl
    have g1 := hf 1 f1 rfl
    have g2 := hf 2 f2 rfl
    have g3 := hf 3 f3 rfl
    simp only [o0, o1, o2, o3, t0, t1, t2, t3, cellsGraph, cellsForest, cellsIntK] at g0 g1 g2 g3
    exact ⟨m, y1, y2, y3, y4, by simpa using g0, by simpa using g1, by simpa using g2, by simpa using g3, by rw [hxx]; rfl⟩

set_option maxRecDepth 100000 in
/-- An Ask that came in. -/
theorem ask_of_trod {base : Nat} {v : Value} {d : DataW H} {p : List MemPlace} {ts : List TypeId} {ds : List (DataW H)} {j : Nat} (hval : Value.okWide Try.prog W .any base 42 v)
    (h : DataW.Trod enc Try.prog W 0 (fun _ => true) true 42 v d p) (hsz : (DataW.weightsEach Try.prog ts ds).all (· ≤ reachBytes) = true) (hts : ts[j]? = some 42) (hds : ds[j]? = some d) :
    ∃ (n : Int) (a : Option Addr) (cap : Nat) (qs : List (Int × Int)) (f : For) (s : Df.St) (x y : Int), v = .agg #[.int .i64 n, .slice a qs.length cap, .slice f.a1 s.par.length f.c1, .slice f.a2 s.hei.length f.c2, .slice f.a3 s.ord.length f.c3, .slice f.a4 s.ori.length f.c4, .int .i64 x, .int .i64 y] ∧ PairsIn W a qs.length cap qs ∧ qs.length * 16 ≤ 140737488351232 ∧ LstF W f s ∧ In64F s := by
  obtain ⟨cs, rfl, hcs⟩ := okWide_struct Try.underlying42 hval
  rw [cellsAsk] at hcs
  obtain ⟨fuel, hf⟩ := h
  obtain ⟨cl⟩ := cs
  match cl, hcs with
  | [u0, u1, u2, u3, u4, u5, u6, u7], _ =>
    obtain ⟨m, e1, e2, e3, e4, b1, b2, b3, b4, hdd⟩ := four_parts Try.underlying42 rfl rfl rfl rfl rfl rfl rfl rfl hf
    dsimp only at hdd
    obtain ⟨m0, y0, y1, g0, g1, hxx⟩ := num_list Try.underlying24 rfl rfl rfl rfl cellsEdges b1
    obtain ⟨n, q0, hy0, w0⟩ := DataW.trod_int Try.underlying3 g0
    simp at q0
    subst q0
    obtain ⟨x, q6, _, _⟩ := DataW.trod_int Try.underlying3 b3
    simp at q6
    subst q6
    obtain ⟨y, q7, _, _⟩ := DataW.trod_int Try.underlying3 b4
    simp at q7
    subst q7
    have hsl : ∃ a len cap, u1 = .slice a len cap := by
      rcases Deep.open_slice Try.underlying22 g1 with ⟨hc, _⟩ | ⟨ad, l, c, _, _, _, _, hc, _⟩
      · simp at hc; exact ⟨_, _, _, hc⟩
      · simp at hc; exact ⟨_, _, _, hc⟩
    obtain ⟨a, len, cap, rfl⟩ := hsl
    obtain ⟨qs, hq, hd⟩ := pairs_in Try.underlying22 cellsEdge (fun n cs y hy => two_edge hy) g1
    have hql := hq.hlen
    subst hql
    obtain ⟨m', z1, z2, z3, z4, k1, k2, k3, k4, hde⟩ := four_lists Try.underlying28 rfl rfl rfl rfl rfl rfl rfl rfl b2
    obtain ⟨a1, c1, l1, rfl, r1, i1, w1⟩ := ints_in k1
    obtain ⟨a2, c2, l2, rfl, r2, i2, w2⟩ := ints_in k2
    obtain ⟨a3, c3, l3, rfl, r3, i3, w3⟩ := ints_in k3
    obtain ⟨a4, c4, l4, rfl, r4, i4, w4⟩ := ints_in k4
    rw [hde, hxx] at hdd
    have lim : ∀ (y : DataW H × List MemPlace) (l : List Int), y ∈ [z1, z2, z3, z4] → ((y.1 = .nil ∧ l = []) ∨ ∃ es rest, y.1 = .slice es rest ∧ l.length ≤ es.length) → l.length ≤ 17592186043904 := fun y l hy hw => by
      rcases hw with ⟨_, rfl⟩ | ⟨es, rest, e, hle⟩
      · simp
      · have hw := List.all_eq_true.1 hsz _ (DataW.weights_mem_each hts hds ((es.length + rest.length) * Try.prog.bytesOf 3) (by
          rw [hdd]
          simp only [List.mem_cons, List.not_mem_nil, or_false] at hy
          rcases hy with rfl | rfl | rfl | rfl <;> simp [DataW.weightsEach, DataW.weights, Try.underlying42, Try.underlying28, Try.underlying26, e]))
        rw [bytesInt] at hw
        have hw2 : (es.length + rest.length) * 8 ≤ reachBytes := of_decide_eq_true hw
        simp only [reachBytes] at hw2
        omega
    refine ⟨n, a, cap, qs, ⟨a1, a2, a3, a4, c1, c2, c3, c4⟩, ⟨l1, l2, l3, l4⟩, x, y, rfl, hq, ?_, ⟨r1, r2, r3, r4, lim z1 l1 (by simp) w1, lim z2 l2 (by simp) w2, lim z3 l3 (by simp) w3, lim z4 l4 (by simp) w4⟩, i1, i2, i3, i4⟩
    rcases hd with ⟨_, rfl⟩ | ⟨es, rest, hd, hle⟩
    · simp
    · have hw := List.all_eq_true.1 hsz _ (DataW.weights_mem_each hts hds ((es.length + rest.length) * Try.prog.bytesOf 39) (by
        rw [hdd]
        simp [DataW.weights, DataW.weightsEach, Try.underlying42, Try.underlying24, Try.underlying22, hd]))
      rw [bytesEdge] at hw
      have hw2 : (es.length + rest.length) * 16 ≤ reachBytes := of_decide_eq_true hw
      simp only [reachBytes] at hw2
      omega
end

end Go.Proofs.Ytponmjipbcmlhaa
