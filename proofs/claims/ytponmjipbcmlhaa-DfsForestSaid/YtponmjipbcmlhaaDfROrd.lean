/-
  The document's ordered.
-/
import Derived.Test.YtponmjipbcmlhaaDfRAb
import Derived.Test.YtponmjipbcmlhaaMgG
import Derived.Test.YtponmjipbcmlhaaDfRW
import Derived.Test.YtponmjipbcmlhaaMgF
namespace Go.Proofs.Ytponmjipbcmlhaa
open Go.RowKit

namespace Df
/-- What is left of a way, from p on. -/
def lv (p : Int) : List Int → List Int
  | [] => []
  | x :: W => if x = p then x :: W else lv p W
theorem lv_eq {p i : Int} : ∀ (W B : List Int), (leave p i W B).1 = lv p W
  | [], B => rfl
  | x :: W, B => by
    unfold leave lv
    by_cases h : x = p
    · rw [if_pos h, if_pos h]
    · rw [if_neg h, if_neg h]
      exact lv_eq W _
theorem lv_hit {p : Int} {W : List Int} : lv p (p :: W) = p :: W := by unfold lv; rw [if_pos rfl]
theorem lv_miss {p x : Int} {W : List Int} (h : x ≠ p) : lv p (x :: W) = lv p W := by
  conv => lhs; unfold lv
  rw [if_neg h]
theorem lv_sub {p : Int} : ∀ {W : List Int} {x : Int}, x ∈ lv p W → x ∈ W
  | [], _, h => h
  | y :: W, x, h => by
    unfold lv at h
    by_cases e : y = p
    · rw [if_pos e] at h; exact h
    · rw [if_neg e] at h; exact List.mem_cons_of_mem _ (lv_sub h)
theorem lv_len {p : Int} : ∀ (W : List Int), (lv p W).length ≤ W.length
  | [] => Nat.le_refl _
  | y :: W => by
    unfold lv
    by_cases e : y = p
    · rw [if_pos e]; exact Nat.le_refl _
    · rw [if_neg e]; have := lv_len (p := p) W; simp; omega
theorem side_succ {n : Nat} {es : List (Int × Int)} {s : St} {k : Nat} {W B : List Int} {x p : Int} (h : side n es s k = some (W, B)) (hx : at_ s.ord k = x) (hp : up es s x = p) (hn : ¬ (p ≠ -1 ∧ lv p W = [])) : ∃ B', side n es s (k + 1) = some (x :: lv p W, B') := by
  refine ⟨(leave p k W B).2, ?_⟩
  conv => lhs; unfold side
  rw [h, Option.bind_some]
  dsimp only
  rw [hx, hp, lv_eq, if_neg hn]
theorem side_stop {n : Nat} {es : List (Int × Int)} {s : St} {k : Nat} {W B : List Int} {x p : Int} (h : side n es s k = some (W, B)) (hx : at_ s.ord k = x) (hp : up es s x = p) (h1 : p ≠ -1) (h2 : lv p W = []) : side n es s (k + 1) = none := by
  conv => lhs; unfold side
  rw [h, Option.bind_some]
  dsimp only
  rw [hx, hp, lv_eq, if_pos ⟨h1, h2⟩]

/-- What was seen of the first k. -/
def SeenTo (n : Nat) (s : St) (k : Nat) (S : List Bool) : Prop := S.length = n ∧ ∀ v : Nat, v < n → (S.getD v false = true ↔ ∃ a, a < k ∧ at_ s.ord a = (v : Int))
theorem SeenTo.start (n : Nat) (s : St) : SeenTo n s 0 (List.replicate n false) := ⟨by simp, fun v hv => by
  rw [List.getD_eq_getElem?_getD, List.getElem?_replicate, if_pos hv]
  simp⟩
theorem SeenTo.step {n k : Nat} {s : St} {S : List Bool} {v : Nat} (h : SeenTo n s k S) (hv : at_ s.ord k = (v : Int)) (hvn : v < n) : SeenTo n s (k + 1) (S.set v true) := by
  refine ⟨by simp [h.1], fun u hu => ?_⟩
  rw [List.getD_eq_getElem?_getD, List.getElem?_set]
  by_cases e : v = u
  · rw [if_pos e, if_pos (by rw [h.1]; exact hvn)]
    exact ⟨fun _ => ⟨k, by omega, by rw [hv, e]⟩, fun _ => rfl⟩
  · rw [if_neg e, ← List.getD_eq_getElem?_getD, h.2 u hu]
    constructor
    · rintro ⟨a, ha, h1⟩
      exact ⟨a, by omega, h1⟩
    · rintro ⟨a, ha, h1⟩
      by_cases ea : a = k
      · subst ea
        rw [hv] at h1
        omega
      · exact ⟨a, by omega, h1⟩
theorem Once.step {n k : Nat} {s : St} {S : List Bool} {v : Nat} (h : Once n s k) (hS : SeenTo n s k S) (hv : at_ s.ord k = (v : Int)) (hvn : v < n) (hno : S.getD v false = false) : Once n s (k + 1) := fun i hi => by
  by_cases e : i = k
  · subst e
    rw [hv]
    refine ⟨by omega, fun j hj e => ?_⟩
    have := (hS.2 v hvn).2 ⟨j, hj, e⟩
    rw [hno] at this
    cases this
  · exact h i (by omega)
end Df

theorem OwnZ.take0 {w : World} {B g l c : Nat} {K : List Int} (h : OwnZ w B (.slice (some ⟨g, 0, none⟩) l c) K) (hl : K.length = l) : OwnZ w B (.slice (some ⟨g, 0, none⟩) 0 c) [] := by
  unfold OwnZ at h ⊢
  rw [hl] at h
  exact own_prefix (p := 0) (i := l) (xs := []) (by simpa using h) rfl

/-- ordered, under way. -/
structure OrdAt (w wr : World) (n : Nat) (ao : Option Addr) (ca : Nat) (es : List (Int × Int)) (f : For) (s : Df.St) (gs g c : Nat) (S : List Bool) (W : List Int) : Prop where
  bx : BxAt w wr n ao ca es f s
  sb : BoolsBlk wr gs S
  ow : OwnZ wr (w.heap.size + 2) (.slice (some ⟨g, 0, none⟩) W.length c) W.reverse
  gl : w.heap.size + 2 ≤ gs
  ne : g ≠ gs

section
variable {w wr V : World} {n : Nat} {ao : Option Addr} {ca : Nat} {es : List (Int × Int)} {f : For} {s : Df.St} {gs g c : Nat} {S : List Bool} {W : List Int}

theorem BxAt.same (h : BxAt w wr n ao ca es f s) (hb : Below w.heap.size w V) (h1 : ∀ k, k < w.heap.size + 2 → V.heap[k]? = wr.heap[k]?) : BxAt w V n ao ca es f s := ⟨hb, (h1 _ (by omega)).trans h.g, (h1 _ (by omega)).trans h.k⟩

theorem OrdAt.later (h : OrdAt w wr n ao ca es f s gs g c S W) (hb : Below wr.heap.size wr V) : OrdAt w V n ao ca es f s gs g c S W := ⟨h.bx.later hb, h.sb.later hb, h.ow.later hb, h.gl, h.ne⟩
theorem OrdAt.mark (h : OrdAt w wr n ao ca es f s gs g c S W) (v : Nat) : OrdAt w (wr.setCell ⟨gs, v, none⟩ (.bool true)) n ao ca es f s gs g c (S.set v true) W :=
  ⟨h.bx.same (h.bx.bel.setCell (p := ⟨gs, v, none⟩) (by have := h.gl; show w.heap.size ≤ gs; omega) _) (fun k hk => blk_same (by have := h.gl; omega) _), h.sb.set v true, h.ow.set_far (fun e => h.ne (Option.some.inj e)) _, h.gl, h.ne⟩
theorem OrdAt.clear (h : OrdAt w wr n ao ca es f s gs g c S W) : OrdAt w wr n ao ca es f s gs g c S [] := ⟨h.bx, h.sb, h.ow.take0 (by simp), h.gl, h.ne⟩
theorem OrdAt.pop {x : Int} (h : OrdAt w wr n ao ca es f s gs g c S (x :: W)) : OrdAt w wr n ao ca es f s gs g c S W := by
  refine ⟨h.bx, h.sb, ?_, h.gl, h.ne⟩
  have := h.ow
  rw [List.reverse_cons] at this
  have h2 := OwnZ.front (K := W.reverse) (x := x) (g := g) (c := c) (by simpa using this)
  simpa using h2
theorem OrdAt.top {x : Int} (h : OrdAt w wr n ao ca es f s gs g c S (x :: W)) : wr.cell? ⟨g, W.length, none⟩ = some (.int .i64 x) ∧ W.length + 1 ≤ c := by
  have := h.ow
  rw [List.reverse_cons] at this
  obtain ⟨g', c', e, h1, h2, _⟩ := this.row_snoc
  injection e with e1 e2 e3
  injection e1 with e1
  injection e1 with e4
  subst e4
  subst e3
  simp at h1 h2
  exact ⟨h1, h2⟩
theorem OrdAt.pushed {x : Int} {v' : Value} {w1 : World} {o : Obj} (h : OrdAt w wr n ao ca es f s gs g c S W) (hown : OwnZ w1 (w.heap.size + 2) v' (W.reverse ++ [x])) (hg : (wr.alloc o).grownBy w1 (Value.ownBlock (.slice (some ⟨g, 0, none⟩) W.length c))) (hat : v'.ownBlock = Value.ownBlock (.slice (some ⟨g, 0, none⟩) W.length c) ∨ v'.ownBlock = some (wr.heap.size + 1)) : ∃ g' c', v' = .slice (some ⟨g', 0, none⟩) (W.length + 1) c' ∧ OrdAt w w1 n ao ca es f s gs g' c' S (x :: W) := by
  obtain ⟨g', c', e, h1, h2, h3, h4⟩ := hown.row_snoc
  rw [List.length_reverse] at e h1 h2
  subst e
  have hgl := h.ow.lt (b := g) rfl
  have hsl := h.sb.lt
  have hsz := h.bx.bel.size
  have hkl := lt_of_block h.bx.k
  have keep : ∀ b, b < wr.heap.size → b ≠ g → w1.heap[b]? = wr.heap[b]? := fun b hb hn => by
    rw [hg.block b (by rw [World.size_alloc]; omega) (fun e => hn (Option.some.inj e))]
    exact Below.heap_alloc wr _ b hb
  have hbel : Below w.heap.size w w1 := by
    have h5 : Wrote (fun k => k = g) wr w1 := ⟨hg.os, hg.tape, hg.output, by have := hg.size; rw [World.size_alloc] at this; omega, fun k hk hn => keep k hk hn⟩
    exact h.bx.bel.trans (h5.below hsz fun k hk => by subst hk; omega)
  refine ⟨g', c', rfl, h.bx.same hbel (fun k hk => keep k (by omega) (by omega)), (keep gs hsl (fun e => h.ne e.symm)).trans h.sb, ?_, h.gl, ?_⟩
  · rw [List.reverse_cons]
    exact hown
  · rcases hat with e | e
    · have h5 : g' = g := Option.some.inj e
      rw [h5]; exact h.ne
    · have h5 : g' = wr.heap.size + 1 := Option.some.inj e
      omega
end

end Go.Proofs.Ytponmjipbcmlhaa
