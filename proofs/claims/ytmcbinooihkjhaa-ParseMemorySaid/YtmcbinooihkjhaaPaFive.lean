/-
  ParseMemory's lists while they are grown: all of them, what each was grown to, and the lists of these lists.
-/
import Derived.Test.YtmcbinooihkjhaaPaKeep
namespace Go.Proofs.Ytmcbinooihkjhaa
open Go.RowKit

theorem cell_two_n (w : World) (x y : Value) (t : TypeId) : ∀ j u, [x, y][j]? = some u → (w.alloc (.cells #[x, y] t)).cell? ((⟨w.heap.size, 0, none⟩ : Addr).add j) = some u := by
  intro j u hj
  rw [addr0]
  match j, hj with
  | 0, hj => simpa using hj
  | 1, hj => simpa using hj
  | j + 2, hj => simp at hj

structure Five (B ga ca : Nat) (Y : World) (ls : List Value) (M : Nat → List (Int × Int)) (w : World) (vg : Value) (gs : List Value) : Prop where
  all : w.ownsRow B 29 1 (.slice (some ⟨ga, 0, none⟩) 9 ca) 9 ls
  grown : w.ownsRow B 29 1 vg gs.length gs
  far : vg.ownBlock ≠ some ga
  bel : Below B Y w
  nine : Nine B w ls M
  more : Grown B w ls gs M

variable {B ga ca : Nat} {Y w w' : World} {ls gs : List Value} {M : Nat → List (Int × Int)} {vg v : Value}

/-- Behind a row of pairs that is none of the grown ones, something is appended. -/
theorem Five.push (h : Five B ga ca Y ls M w vg gs) (x : Obj) {n : Nat} {xs : List Value} (hY : B ≤ w.heap.size) (hv : (w.alloc x).ownsRow B 38 2 v n xs) (hg : (w.alloc x).grownBy w' v.ownBlock)
    (hkeep : ∀ (b k : Nat) (u : Value) (ys : List Value), (w.alloc x).ownsRow b 38 2 u k ys → (u.ownBlock = v.ownBlock → k ≤ n) → w'.ownsRow b 38 2 u k ys) (hn : ∀ k, (M k).length ≤ n)
    (hgs : ∀ (k : Nat) (u : Value), gs[k]? = some u → u.ownBlock ≠ v.ownBlock) : Five B ga ca Y ls M w' vg gs where
  all := (h.all.alloc x).kept hg (types_apart (h.all.alloc x) hv (by decide))
  grown := (h.grown.alloc x).kept hg (types_apart (h.grown.alloc x) hv (by decide))
  far := h.far
  bel := (h.bel.alloc hY x).grown hg (by simp; omega) (fun k hk => (hv.lt k hk).1)
  nine := (h.nine.alloc x).through hkeep (fun j _ _ _ => hn j)
  more := ⟨fun k u hk => hkeep _ _ _ _ ((h.more.alloc x).own k u hk) (fun e => absurd e (hgs k u hk)), h.more.apart⟩

theorem Five.apart (h : Five B ga ca Y ls M w vg gs) {lv : Value} (hj : ls[gs.length]? = some lv) (hfar : ∀ b, v.ownBlock = some b → some b = lv.ownBlock ∨ w.heap.size ≤ b) : ∀ (k : Nat) (u : Value), gs[k]? = some u → u.ownBlock ≠ v.ownBlock := by
  intro k u hk e
  have hkl : k < gs.length := by
    rcases Nat.lt_or_ge k gs.length with hl | hl
    · exact hl
    · rw [List.getElem?_eq_none hl] at hk; cases hk
  have ho := h.more.own k u hk
  have hs := own_some ho (by simp)
  cases hu : u.ownBlock with
  | none => exact hs hu
  | some b =>
    have hl := (ho.lt b hu).2
    rw [hu] at e
    rcases hfar b e.symm with e1 | e1
    · exact h.more.apart k gs.length u lv hk hj (by omega) (by rw [hu, e1])
    · omega

/-- One more that was grown is put behind. -/
theorem Five.snoc (h : Five B ga ca Y ls M w vg gs) (hY : B ≤ w.heap.size) (hv : OwnPairs w B v (M gs.length ++ [((gs.length : Int), -9)])) (hne : ∀ (j : Nat) (u : Value), ls[j]? = some u → gs.length ≠ j → v.ownBlock ≠ u.ownBlock) (x : Obj) {vg' : Value}
    (hown : w'.ownsRow B 29 1 vg' (gs.length + 1) (gs ++ [v])) (hg : (w.alloc x).grownBy w' vg.ownBlock) (hat : vg'.ownBlock = vg.ownBlock ∨ vg'.ownBlock = some (w.alloc x).heap.size) : Five B ga ca Y ls M w' vg' (gs ++ [v]) where
  all := (h.all.alloc x).kept hg (.inr fun e => h.far (by rw [← e]; rfl))
  grown := by simpa using hown
  far := by
    rcases hat with e | e
    · rw [e]; exact h.far
    · rw [e]
      have := (h.all.lt ga rfl).2
      simp
      omega
  bel := (h.bel.alloc hY x).grown hg (by simp; omega) (fun k hk => (h.grown.lt k hk).1)
  nine := (h.nine.alloc x).kept hg (fun k u hk => (h.nine.alloc x).other (h.grown.alloc x) (by decide) k u hk)
  more := ((h.more.snoc hv hne).alloc x).kept hg (fun k u hk => types_apart (((h.more.snoc hv hne).alloc x).own k u hk) (h.grown.alloc x) (by decide))

/-- The list that l was grown to lies apart from all but l. -/
theorem Five.off (h : Five B ga ca Y ls M w vg gs) {lv : Value} {j : Nat} {ps : List (Int × Int)} {b : Nat} (hj : ls[j]? = some lv) (hv : OwnPairs w' B v ps) (hp : ps ≠ []) (hb : w.heap.size ≤ b) (hat : v.ownBlock = lv.ownBlock ∨ v.ownBlock = some b) : ∀ (i : Nat) (u : Value), ls[i]? = some u → j ≠ i → v.ownBlock ≠ u.ownBlock := by
  intro i u hi hji e
  have hs := own_some hv hp
  rcases hat with e1 | e1
  · rcases h.nine.apart j i lv u hj hi hji with e2 | e2
    · exact hs (e1.trans e2)
    · exact e2 (e1.symm.trans e)
  · have := ((h.nine.own i u hi).lt b (by rw [← e, e1])).2
    omega

end Go.Proofs.Ytmcbinooihkjhaa
