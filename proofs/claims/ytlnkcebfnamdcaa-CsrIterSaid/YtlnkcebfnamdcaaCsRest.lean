/-
  Proved: of the law CsrIter, what follows its first loop, as theorems of their own (rest; rest2 is open), and the memory of its second loop (XY).
-/
import Derived.Test.YtlnkcebfnamdcaaCsAwake
import Derived.Test.YtlnkcebfnamdcaaCsRV
import Derived.Test.YtlnkcebfnamdcaaCsQuiet
import Derived.Test.YtlnkcebfnamdcaaSiGin
import Derived.Maps.OwnIn
import Derived.Laws.EntriesVeiled
namespace Go.Proofs.Ytlnkcebfnamdcaa
open Go.ChangeShapes Go.WideShapes Go.ChangeAt Go.RowKit Go.Shelf
namespace lawIter

attribute [local go_sem] Oper.semAt_some

theorem info : (Try.prog.info? 3).map (fun i => (i.zero, i.size, i.bytes)) = some (some (.int .i64 0), 1, 8) := by kernel_rfl

/-- At most one half-edge of an edge leaves a vertex. -/
theorem out_half {n : Int} {es : List (Int × Int)} (hv : Si.Val n es) (v : Nat) : ∀ k, k ≤ es.length → (Cs.out es v (2 * k)).length ≤ k
  | 0, _ => by simp [Cs.out]
  | k + 1, hk => by
    have ih := out_half hv v k (by omega)
    obtain ⟨q, hq⟩ : ∃ q, es[k]? = some q := ⟨_, List.getElem?_eq_getElem (by omega)⟩
    have hok := hv.each k q hq
    unfold Si.ok at hok
    obtain ⟨e1, -⟩ := Cs.fr_even hq
    obtain ⟨e3, -⟩ := Cs.fr_odd hq
    have e : 2 * (k + 1) = 2 * k + 1 + 1 := by omega
    rw [e, Cs.out_len_succ, Cs.out_len_succ, e1, e3]
    split <;> split <;> omega

theorem outz_few {n : Nat} {es : List (Int × Int)} (hv : Si.Val n es) (x : Int) : (Cs.outZ n es x).length ≤ es.length := by
  rw [Cs.outZ_len]
  unfold Cs.outI
  split
  · exact out_half hv _ _ (Nat.le_refl _)
  · simp

/-- Two lists in boxes, each with a row of its own. -/
def XY (base X Y p q : Nat) (W : World) : Prop := ∃ u1 u2 xs ys, Boxed W X 25 u1 ∧ Boxed W Y 25 u2 ∧ W.ownsRow base 3 1 u1 p xs ∧ W.ownsRow base 3 1 u2 q ys ∧ ∀ b, u1.ownBlock = some b → u2.ownBlock ≠ some b

theorem XY.swap {base X Y p q : Nat} {W : World} (h : XY base X Y p q W) : XY base Y X q p W := by
  obtain ⟨u1, u2, xs, ys, h1, h2, h3, h4, h5⟩ := h
  exact ⟨u2, u1, ys, xs, h2, h1, h4, h3, fun b hb hc => h5 b hc hb⟩

theorem row_own {W W' : World} {row : Option Nat} {base p : Nat} {u : Value} {xs : List Value} (h : W.ownsRow base 3 1 u p xs) (hg : W.grownBy W' row) (hr : ∀ r, row = some r → ∃ o : Obj, W.heap[r]? = some o ∧ o.isCells = false) : W'.ownsRow base 3 1 u p xs := by
  refine ⟨h.1, ?_⟩
  rcases h.2 with h | ⟨g, cap, cur, e, hgB, hh, hr2⟩
  · exact .inl h
  · refine .inr ⟨g, cap, cur, e, hgB, (hg.block g (lt_of_block hh) (fun e2 => ?_)).trans hh, hr2⟩
    obtain ⟨o, h1, h2⟩ := hr g e2.symm
    rw [hh] at h1
    cases h1
    cases h2

theorem XY.own {base X Y p q : Nat} {W W' : World} {row : Option Nat} (h : XY base X Y p q W) (hg : W.grownBy W' row) (hr : ∀ r, row = some r → ∃ o : Obj, W.heap[r]? = some o ∧ o.isCells = false) : XY base X Y p q W' := by
  obtain ⟨u1, u2, xs, ys, h1, h2, h3, h4, h5⟩ := h
  have hb : ∀ {B : Nat} {v : Value}, Boxed W B 25 v → Boxed W' B 25 v := fun {B v} h => h.kept hg (fun e => by
    obtain ⟨o, k1, k2⟩ := hr B e.symm
    unfold Boxed at h
    rw [h] at k1
    cases k1
    cases k2)
  exact ⟨u1, u2, xs, ys, hb h1, hb h2, row_own h3 hg hr, row_own h4 hg hr, h5⟩

/-- What an append to the first of them leaves. -/
theorem XY.put {base X Y p q : Nat} {W w1 : World} {u1 u2 u' : Value} {xs ys zs : List Value} {tmp : Obj} (h1 : Boxed W X 25 u1) (h2 : Boxed W Y 25 u2) (h3 : W.ownsRow base 3 1 u1 p xs) (h4 : W.ownsRow base 3 1 u2 q ys) (h5 : ∀ b, u1.ownBlock = some b → u2.ownBlock ≠ some b)
    (hX : X < base) (hY : Y < base) (hne : X ≠ Y) (hB : base ≤ W.heap.size) (hown' : w1.ownsRow base 3 1 u' (p + 1) zs) (hgrow : (W.alloc tmp).grownBy w1 u1.ownBlock) (hat : u'.ownBlock = u1.ownBlock ∨ u'.ownBlock = some (W.alloc tmp).heap.size) :
    Boxed w1 X 25 u1 ∧ Boxed (w1.setCell ⟨X, 0, none⟩ u') X 25 u' ∧ XY base X Y (p + 1) q (w1.setCell ⟨X, 0, none⟩ u') ∧ KeepsOthers W (w1.setCell ⟨X, 0, none⟩ u') ∧
      Wrote (fun b => b = X ∨ base ≤ b) W (w1.setCell ⟨X, 0, none⟩ u') := by
  obtain ⟨k1, k2, k3, k4, k5, k6, k7⟩ := boxed_gathered h1 (by decide) h3 hB hown' hgrow
  have hrow2 : (w1.setCell ⟨X, 0, none⟩ u').ownsRow base 3 1 u2 q ys := by
    refine ⟨h4.1, ?_⟩
    rcases h4.2 with h | ⟨g, cap, cur, e, hgB, hh, hr2⟩
    · exact .inl h
    · refine .inr ⟨g, cap, cur, e, hgB, ?_, hr2⟩
      rw [heap_setCell_other w1 ⟨X, 0, none⟩ g u' (by show g ≠ X; omega), hgrow.block g (by rw [World.size_alloc]; have := lt_of_block hh; omega) (fun e2 => h5 g e2.symm (by rw [e]; rfl))]
      exact (Below.heap_alloc W tmp g (lt_of_block hh)).trans hh
  refine ⟨k1, k2, ⟨u', u2, zs, ys, k2, (k6 Y hY (Ne.symm hne)).trans h2, k3, hrow2, fun b hb hc => ?_⟩, k4, ?_⟩
  · rcases hat with e | e
    · rw [e] at hb
      exact h5 b hb hc
    · rw [e] at hb
      have e1 := Option.some.inj hb
      rw [World.size_alloc] at e1
      rcases h4.2 with ⟨rfl, _⟩ | ⟨g, cap, cur, e2, _, hh, _⟩
      · simp [Value.ownBlock] at hc
      · rw [e2] at hc
        have : g = b := by simpa [Value.ownBlock] using hc
        have := lt_of_block hh
        omega
  · have hb := k7 0 (Nat.zero_le _) (Nat.zero_le _)
    exact ⟨hb.os, hb.tape, hb.output, hb.size, fun k _ hn => k6 k (by omega) (by omega)⟩

theorem KeepsOthers.of_drewN (W : World) (k : Nat) : KeepsOthers W (W.drewN k) := ⟨Nat.le_refl _, fun _ _ h _ => h⟩

theorem wrote_own {S : Nat → Prop} {w0 W W' : World} {row : Option Nat} (h : Wrote S w0 W) (hg : W.grownBy W' row) (hr : ∀ r, row = some r → w0.heap.size ≤ r) : Wrote S w0 W' :=
  ⟨hg.os.trans h.os, hg.tape.trans h.tape, hg.output.trans h.output, Nat.le_trans h.size hg.size, fun k hk hn => (hg.block k (Nat.lt_of_lt_of_le hk h.size) (fun e => by have := hr k e.symm; omega)).trans (h.block k hk hn)⟩

theorem no_more {c : Int} {k : Nat} (hnb : ¬ (1 ≤ c ∧ c ≤ (k : Int))) (hc : ¬ (k : Int) + 1 = c) : ¬ (1 ≤ c ∧ c ≤ ((k + 1 : Nat) : Int)) := by omega

/-- What follows on the right of n 'seq's. -/
def spine : Nat → Code → Code
  | 0, c => c
  | n + 1, .seq _ d => spine n d
  | _, c => c

/-- What the first loop leaves, and what the rest of the law stands on. -/
structure Ready (m : Nat) (ao : Option Addr) (ca : Nat) (es : List (Int × Int)) (x c : Int) (w w2 w4 : World) (p Bs : Nat) (at4 : Option Addr) (c4 : Nat) (Z : List Int) (L D : Nat) (kk : Int) (W : World) : Prop where
  base : Below w.heap.size w w2
  sizes : w.heap.size + 4 ≤ w2.heap.size ∧ w2.heap.size + 1 ≤ Bs ∧ Bs < w4.heap.size ∧ w4.heap.size + 2 ≤ D
  below : Below w2.heap.size w2 W
  few : es.length ≤ 4194304 ∧ L ≤ es.length ∧ L = Z.length
  adj : IsAdj w2 (.pointer (some ⟨p, 0, none⟩)) m es
  deg : (Cs.outI m es x).length = L
  ints : IntsAt w2 at4 Z
  graph : W.heap[w.heap.size]? = some (.cells #[.int .i64 m, .slice ao es.length ca] 24 (0, 0))
  bv : Boxed W (w.heap.size + 1) 3 (.int .i64 x)
  bn : Boxed W (w.heap.size + 1 + 1) 3 (.int .i64 c)
  br : Boxed W (w.heap.size + 1 + 1 + 1) 4 (.bool false)
  ba : Boxed W w2.heap.size 27 (.pointer (some ⟨p, 0, none⟩))
  bi : Boxed W w4.heap.size 46 (.func (.func 36) #[] #[.pointer (some ⟨Bs, 0, none⟩)])
  bs : Boxed W Bs 25 (.slice at4 Z.length c4)
  bk : Boxed W (w4.heap.size + 1) 3 (.int .i64 kk)
  want : kk = if 1 ≤ c ∧ c < (L : Int) then c else (L : Int)
  mark : W.heap[D]? = some (.deferred (some []))

theorem Ready.alloc {m : Nat} {ao : Option Addr} {ca : Nat} {es : List (Int × Int)} {x c : Int} {w w2 w4 : World} {p Bs : Nat} {at4 : Option Addr} {c4 : Nat} {Z : List Int} {L D : Nat} {kk : Int} {W : World} (h : Ready m ao ca es x c w w2 w4 p Bs at4 c4 Z L D kk W) (o : Obj) :
    Ready m ao ca es x c w w2 w4 p Bs at4 c4 Z L D kk (W.alloc o) :=
  ⟨h.base, h.sizes, h.below.alloc h.below.size o, h.few, h.adj, h.deg, h.ints, (Below.heap_alloc W o _ (lt_of_block h.graph)).trans h.graph, h.bv.alloc o, h.bn.alloc o, h.br.alloc o, h.ba.alloc o, h.bi.alloc o, h.bs.alloc o, h.bk.alloc o, h.want, (Below.heap_alloc W o _ (lt_of_block h.mark)).trans h.mark⟩

def lft : Code → Code
  | .seq a _ => a
  | c => c

end lawIter
end Go.Proofs.Ytlnkcebfnamdcaa
