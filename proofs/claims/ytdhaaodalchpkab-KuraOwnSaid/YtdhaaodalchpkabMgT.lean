import Derived.Test.YtdhaaodalchpkabMgB
import Derived.Test.YtdhaaodalchpkabMgA
import Derived.Deep.RegionHeld3
import Derived.Lib.SliceRun
import Derived.Test.YtdhaaodalchpkabMgQ
import Derived.Test.YtdhaaodalchpkabMgC
import Derived.Maps.AppendAt
/-
  Small things about memory: lists in blocks, stores elsewhere, the least number.
-/
namespace Go.Proofs.Ytdhaaodalchpkab
open Go.RowKit

theorem getD_of {l : List Int} {i : Nat} (d : Int) (h : i < l.length) : l[i]? = some (l.getD i d) := by
  rw [List.getD_eq_getElem?_getD, List.getElem?_eq_getElem h]
  rfl

theorem OwnZ.lt {w : World} {B : Nat} {v : Value} {l : List Int} (h : OwnZ w B v l) {b : Nat} (hb : v.ownBlock = some b) : B ≤ b ∧ b < w.heap.size := World.ownsRow.lt h b hb

section
variable {w : World}
/-- A store into one of the lists, or only block p is written. -/
theorem blk_same {g b i : Nat} (hne : g ≠ b) (x : Value) : (w.setCell ⟨b, i, none⟩ x).heap[g]? = w.heap[g]? := heap_setCell_other w ⟨b, i, none⟩ g x hne

theorem OwnZ.set_far {B b i : Nat} {v : Value} {l : List Int} (h : OwnZ w B v l) (hf : v.ownBlock ≠ some b) (x : Value) : OwnZ (w.setCell ⟨b, i, none⟩ x) B v l :=
  h.same fun _ hg _ => blk_same (fun e => hf (by rw [hg, e])) x

theorem IntsBlk.set_far {g b i : Nat} {l : List Int} (h : IntsBlk w g l) (hf : g ≠ b) (x : Value) : IntsBlk (w.setCell ⟨b, i, none⟩ x) g l := (blk_same hf x).trans h
end

/-- The least number that has P; 0, if none has. -/
noncomputable def leastOf (P : Nat → Prop) : Nat := open Classical in if h : ∃ k, P k ∧ ∀ j, P j → k ≤ j then Classical.choose h else 0

theorem ex_least {P : Nat → Prop} {k : Nat} (h : P k) : ∃ k, P k ∧ ∀ j, P j → k ≤ j := by
  induction k using Nat.strongRecOn with
  | _ k ih =>
    by_cases hk : ∃ j, j < k ∧ P j
    · obtain ⟨j, hj, hp⟩ := hk
      exact ih j hj hp
    · refine ⟨k, h, fun j hj => ?_⟩
      rcases Nat.lt_or_ge j k with h1 | h1
      · exact absurd ⟨j, h1, hj⟩ hk
      · exact h1

theorem leastOf_spec {P : Nat → Prop} {k : Nat} (h : P k) : P (leastOf P) ∧ leastOf P ≤ k := by
  have hx := ex_least h
  unfold leastOf
  rw [dif_pos hx]
  have := Classical.choose_spec hx
  exact ⟨this.1, this.2 k h⟩

theorem IntsBlk.own0 {w : World} {B g n : Nat} {l : List Int} (h : IntsBlk w g l) (hB : B ≤ g) (hl : l.length = n) (hm : n ≤ 8388608) : OwnZ w B (.slice (some ⟨g, 0, none⟩) 0 n) [] := by
  subst hl
  exact ⟨by simp, .inr ⟨g, _, _, rfl, hB, h, by simp, by unfold maxLen; omega, by simp, by simp⟩⟩

theorem four_cells {w : World} {R : Nat} {t : TypeId} {a b c d : Value} (h : w.heap[R]? = some (.cells #[a, b, c, d] t (0, 0))) : w.cell? ⟨R, 0, none⟩ = some a ∧ w.cell? ⟨R, 1, none⟩ = some b ∧ w.cell? ⟨R, 2, none⟩ = some c ∧ w.cell? ⟨R, 3, none⟩ = some d ∧ ∀ i, w.frozen? ⟨R, i, none⟩ = false := by
  refine ⟨?_, ?_, ?_, ?_, fun i => ?_⟩
  · simp [World.cell?, h]
  · simp [World.cell?, h]
  · simp [World.cell?, h]
  · simp [World.cell?, h]
  · simp [World.frozen?, h]

theorem Cs.fr_ne_to {n : Nat} {es : List (Int × Int)} (hv : Si.Val n es) {h : Nat} (hh : h < 2 * es.length) : Cs.fr es h ≠ Cs.to es h := by
  obtain ⟨p, hp⟩ : ∃ p, es[h / 2]? = some p := ⟨_, List.getElem?_eq_getElem (by omega)⟩
  have ho := hv.each _ p hp
  unfold Si.ok at ho
  unfold Cs.fr Cs.to
  rw [List.getD_eq_getElem?_getD, hp]
  dsimp only [Option.getD_some]
  split <;> omega

theorem made_blk {W : World} {k M : Nat} (h : W.heap.size = k) : IntsBlk (W.alloc (.cells (madeCells #[.int .i64 0] M) 3)) k (List.replicate M 0) := by
  subst h
  unfold IntsBlk
  rw [heap_alloc_new, ← made_zeros]

theorem alloc_at {W : World} {k : Nat} {o : Obj} (h : W.heap.size = k) : (W.alloc o).heap[k]? = some o := by
  subst h
  exact heap_alloc_new W o

end Go.Proofs.Ytdhaaodalchpkab

/-
  Lists of lists of ints, wherever they lie.
-/
namespace Go.Proofs.Ytdhaaodalchpkab
open Go.RowKit

/-- The lists ls lie at xo, each wherever it lies. -/
def RwsAt (w : World) (xo : Option Addr) (ls : List (List Int)) : Prop :=
  ∀ (v : Nat) (l : List Int), ls[v]? = some l → ∃ b o A C, xo = some ⟨b, o, none⟩ ∧ w.cell? ⟨b, o + v, none⟩ = some (.slice A l.length C) ∧ Lst w A l.length C l ∧ l.length ≤ 17592186043904 ∧ l.length ≤ C ∧ C ≤ 9223372036854775807

theorem RwsAt.later {w w' : World} {xo : Option Addr} {ls : List (List Int)} (h : RwsAt w xo ls) (hb : Below w.heap.size w w') : RwsAt w' xo ls := fun v l hl => by
  obtain ⟨b, o, A, C, e, hc, hL, hn⟩ := h v l hl
  exact ⟨b, o, A, C, e, (hb.cell (p := ⟨b, o + v, none⟩) (block_lt_of_cell hc)).trans hc, hL.later hb, hn⟩

theorem RwsAt.nil (w : World) (xo : Option Addr) : RwsAt w xo [] := fun v l hl => by simp at hl

/-- An element of a list that lies somewhere. -/
theorem Lst.elem {w : World} {A : Option Addr} {n C : Nat} {l : List Int} (h : Lst w A n C l) {i : Nat} {x : Int} (hx : l[i]? = some x) : ∃ b o, A = some ⟨b, o, .none⟩ ∧ w.cell? ⟨b, o + i, .none⟩ = some (.int .i64 x) := h.ints i x hx

end Go.Proofs.Ytdhaaodalchpkab

/-
  A list of lists that was made, and into which lists are laid.
-/
namespace Go.Proofs.Ytdhaaodalchpkab
open Go.RowKit

section
variable {W W1 : World} {B : Nat} {vs : List Value} {ls : List (List Int)}
/-- A list that a call has made is laid at u. -/
theorem RowsZ.store {u g c K : Nat} {x' : Value} {l' : List Int} (h : RowsZ W B (.slice (some ⟨g, 0, none⟩) K c) vs ls) (hls : ls.length = K) (hu : u < K) (hb : Below W.heap.size W W1) (hown : OwnZ W1 W.heap.size x' l') (hB : B ≤ W.heap.size) :
    (∃ y, W1.cell? ⟨g, u, none⟩ = some y) ∧ W1.frozen? ⟨g, u, none⟩ = false ∧ RowsZ (W1.setCell ⟨g, u, none⟩ x') B (.slice (some ⟨g, 0, none⟩) K c) (vs.set u x') (ls.set u l') ∧ Below B W (W1.setCell ⟨g, u, none⟩ x') := by
  subst hls
  have h1 : RowsZ W1 B (.slice (some ⟨g, 0, none⟩) ls.length c) vs ls := h.later hb
  have hul : u < vs.length := by rw [h.len]; exact hu
  obtain ⟨hgB, hgl⟩ := World.ownsRow.lt h.outer g rfl
  have hst := h1.outer.stored u x'
  have hc := World.ownsRow.cells h1.outer (g := g) rfl u _ (List.getElem?_eq_getElem hul)
  have ea : ((⟨g, 0, none⟩ : Addr).add u) = ⟨g, u, none⟩ := by
    by_cases h0 : u = 0 <;> simp [Addr.add, h0]
  rw [ea] at hc
  have hat : ∀ b, x'.ownBlock = some b → W.heap.size ≤ b := fun b hb => (World.ownsRow.lt hown b hb).1
  have hset : ∀ b, b ≠ g → (W1.setCell ⟨g, u, none⟩ x').heap[b]? = W1.heap[b]? := fun b hb => heap_setCell_other W1 ⟨g, u, none⟩ b x' hb
  have hold : ∀ (a : Nat) (y : Value) (b : Nat), vs[a]? = some y → y.ownBlock = some b → b < W.heap.size := fun a (y : Value) b hy hb => by
    obtain ⟨k, hk⟩ := h.at hy
    exact (World.ownsRow.lt (h.row a y k hy hk) b hb).2
  refine ⟨⟨_, hc⟩, h1.outer.frozenAt u, ⟨by simp [h.len], by rw [List.length_set]; exact hst.1, fun a y k ha hk => ?_, fun a a' y y' b hne ha ha' hb => ?_, fun a y b ha hb => ?_⟩, ?_⟩
  · rw [List.getElem?_set] at ha hk
    by_cases e : u = a
    · subst e
      rw [if_pos rfl, if_pos hul] at ha
      rw [if_pos rfl, if_pos hu] at hk
      cases ha
      cases hk
      refine (hown.lower hB).same fun b hb _ => hset b (fun e => ?_)
      have := hat b hb
      omega
    · rw [if_neg e] at ha hk
      exact (h1.row a y k ha hk).same fun b hb hl => hset b (fun e => h.far a y b ha hb (by rw [e]; rfl))
  · rw [List.getElem?_set] at ha ha'
    by_cases e : u = a
    · subst e
      rw [if_pos rfl, if_pos hul] at ha
      cases ha
      rw [if_neg hne] at ha'
      intro hc
      have := hold a' y' b ha' hc
      have := hat b hb
      omega
    · rw [if_neg e] at ha
      by_cases e' : u = a'
      · subst e'
        rw [if_pos rfl, if_pos hul] at ha'
        cases ha'
        intro hc
        have := hold a y b ha hb
        have := hat b hc
        omega
      · rw [if_neg e'] at ha'
        exact h.apart a a' y y' b hne ha ha' hb
  · rw [List.getElem?_set] at ha
    by_cases e : u = a
    · subst e
      rw [if_pos rfl, if_pos hul] at ha
      cases ha
      intro hc
      obtain rfl : g = b := by simpa [Value.ownBlock] using hc
      have := hat g hb
      omega
    · rw [if_neg e] at ha
      exact h.far a y b ha hb
  · exact (hb.mono hB).setCell (p := ⟨g, u, none⟩) hgB x'

/-- A list that was made since block B' is laid at u, where all lists that are there lie below B'. -/
theorem RowsZ.store2 {u g c K B' : Nat} {x' : Value} {l' : List Int} (h : RowsZ W1 B (.slice (some ⟨g, 0, none⟩) K c) vs ls) (hls : ls.length = K) (hu : u < K) (hg' : g < B') (hlow : ∀ (a : Nat) (y : Value) (b : Nat), vs[a]? = some y → y.ownBlock = some b → b < B') (hown : OwnZ W1 B' x' l') (hB : B ≤ B') :
    (∃ y, W1.cell? ⟨g, u, none⟩ = some y) ∧ W1.frozen? ⟨g, u, none⟩ = false ∧ RowsZ (W1.setCell ⟨g, u, none⟩ x') B (.slice (some ⟨g, 0, none⟩) K c) (vs.set u x') (ls.set u l') ∧ Below B W1 (W1.setCell ⟨g, u, none⟩ x') := by
  subst hls
  have h1 := h
  have hul : u < vs.length := by rw [h.len]; exact hu
  obtain ⟨hgB, hgl⟩ := World.ownsRow.lt h.outer g rfl
  have hst := h1.outer.stored u x'
  have hc := World.ownsRow.cells h1.outer (g := g) rfl u _ (List.getElem?_eq_getElem hul)
  have ea : ((⟨g, 0, none⟩ : Addr).add u) = ⟨g, u, none⟩ := by
    by_cases h0 : u = 0 <;> simp [Addr.add, h0]
  rw [ea] at hc
  have hat : ∀ b, x'.ownBlock = some b → B' ≤ b := fun b hb => (World.ownsRow.lt hown b hb).1
  have hset : ∀ b, b ≠ g → (W1.setCell ⟨g, u, none⟩ x').heap[b]? = W1.heap[b]? := fun b hb => heap_setCell_other W1 ⟨g, u, none⟩ b x' hb
  have hold := hlow
  refine ⟨⟨_, hc⟩, h1.outer.frozenAt u, ⟨by simp [h.len], by rw [List.length_set]; exact hst.1, fun a y k ha hk => ?_, fun a a' y y' b hne ha ha' hb => ?_, fun a y b ha hb => ?_⟩, ?_⟩
  · rw [List.getElem?_set] at ha hk
    by_cases e : u = a
    · subst e
      rw [if_pos rfl, if_pos hul] at ha
      rw [if_pos rfl, if_pos hu] at hk
      cases ha
      cases hk
      refine (hown.lower hB).same fun b hb _ => hset b (fun e => ?_)
      have := hat b hb
      omega
    · rw [if_neg e] at ha hk
      exact (h1.row a y k ha hk).same fun b hb hl => hset b (fun e => h.far a y b ha hb (by rw [e]; rfl))
  · rw [List.getElem?_set] at ha ha'
    by_cases e : u = a
    · subst e
      rw [if_pos rfl, if_pos hul] at ha
      cases ha
      rw [if_neg hne] at ha'
      intro hc
      have := hold a' y' b ha' hc
      have := hat b hb
      omega
    · rw [if_neg e] at ha
      by_cases e' : u = a'
      · subst e'
        rw [if_pos rfl, if_pos hul] at ha'
        cases ha'
        intro hc
        have := hold a y b ha hb
        have := hat b hc
        omega
      · rw [if_neg e'] at ha'
        exact h.apart a a' y y' b hne ha ha' hb
  · rw [List.getElem?_set] at ha
    by_cases e : u = a
    · subst e
      rw [if_pos rfl, if_pos hul] at ha
      cases ha
      intro hc
      obtain rfl : g = b := by simpa [Value.ownBlock] using hc
      have := hat g hb
      omega
    · rw [if_neg e] at ha
      exact h.far a y b ha hb
  · exact (Below.refl B W1).setCell (p := ⟨g, u, none⟩) hgB x'

/-- A list of n lists that was made. -/
theorem RowsZ.made {g n : Nat} (h : W.ownsRow B 34 1 (.slice (some ⟨g, 0, none⟩) n n) n (madeCells #[.slice none 0 0] n).toList) : RowsZ W B (.slice (some ⟨g, 0, none⟩) n n) (List.replicate n (.slice none 0 0)) (List.replicate n []) := by
  rw [toList_madeCells_one] at h
  refine ⟨by simp, by rw [List.length_replicate]; exact h, fun u x l hx hl => ?_, fun u u' x x' b _ hx _ hb => ?_, fun u x b hx hb => ?_⟩
  · have hx := List.eq_of_mem_replicate (List.mem_of_getElem? hx)
    have hl := List.eq_of_mem_replicate (List.mem_of_getElem? hl)
    subst hx
    subst hl
    exact OwnZ.nil _ _
  · have hx := List.eq_of_mem_replicate (List.mem_of_getElem? hx)
    subst hx
    cases hb
  · have hx := List.eq_of_mem_replicate (List.mem_of_getElem? hx)
    subst hx
    cases hb

/-- Lists of one's own as lists wherever they lie. -/
theorem RowsZ.rws {w : World} {v : Value} (h : RowsZ w B v vs ls) (hl : ∀ l ∈ ls, l.length ≤ 17592186043904) : ∃ xo xc, v = .slice xo ls.length xc ∧ RwsAt w xo ls ∧ ls.length ≤ xc := by
  obtain ⟨ao, c, e⟩ := row_shape h
  subst e
  refine ⟨ao, c, rfl, fun u l hu => ?_, ?_⟩
  · obtain ⟨x, hx⟩ := h.at' hu
    have hlt : 0 < ls.length := by have := (List.getElem?_eq_some_iff.1 hu).1; omega
    obtain ⟨g, c', e⟩ := row_form h hlt
    cases e
    have hc := World.ownsRow.cells h.outer (g := g) rfl u x hx
    have ea : ((⟨g, 0, none⟩ : Addr).add u) = ⟨g, 0 + u, none⟩ := by
      by_cases h0 : u = 0 <;> simp [Addr.add, h0]
    rw [ea] at hc
    have hrow := h.row u x l hx hu
    obtain ⟨A, C, rfl, hL, -⟩ := hrow.lst
    refine ⟨g, 0, A, C, rfl, hc, hL, hl l (List.mem_of_getElem? hu), ?_⟩
    rcases hrow.2 with ⟨h', h0⟩ | ⟨g', cap, cur, h', _, _, hlc, hm, _⟩
    · obtain ⟨-, -, hc0⟩ := Value.slice.inj h'
      exact ⟨by omega, by omega⟩
    · cases h'; exact ⟨hlc, by unfold maxLen at hm; omega⟩
  · rcases h.outer.2 with ⟨h', h0⟩ | ⟨g', cap, cur, h', _, _, hlc, _⟩
    · rw [h0]; exact Nat.zero_le _
    · cases h'; exact hlc
end

namespace Ro
/-- The first k lists are laid. -/
def fill (f : List Int → List Int) (ls : List (List Int)) (k : Nat) : List (List Int) := (ls.take k).map f ++ List.replicate (ls.length - k) []
theorem fill_len (f : List Int → List Int) (ls : List (List Int)) {k : Nat} (h : k ≤ ls.length) : (fill f ls k).length = ls.length := by simp [fill]; omega
theorem fill_zero (f : List Int → List Int) (ls : List (List Int)) : fill f ls 0 = List.replicate ls.length [] := by simp [fill]
theorem fill_all (f : List Int → List Int) (ls : List (List Int)) : fill f ls ls.length = ls.map f := by simp [fill]
theorem fill_set {f : List Int → List Int} {ls : List (List Int)} {k : Nat} {l : List Int} (h : ls[k]? = some l) : (fill f ls k).set k (f l) = fill f ls (k + 1) := by
  have hk := (List.getElem?_eq_some_iff.1 h).1
  refine List.ext_getElem? fun j => ?_
  unfold fill
  rw [List.getElem?_set, List.getElem?_append, List.getElem?_append]
  simp only [List.length_map, List.length_take, List.length_append, List.length_replicate, List.getElem?_map, List.getElem?_take, List.getElem?_replicate]
  have m1 : min k ls.length = k := by omega
  have m2 : min (k + 1) ls.length = k + 1 := by omega
  rw [m1, m2]
  by_cases e : k = j
  · subst e
    rw [if_pos rfl, if_pos (by omega), if_pos (by omega), if_pos (by omega), h]
    rfl
  · rw [if_neg e]
    by_cases h1 : j < k
    · rw [if_pos h1, if_pos h1, if_pos (by omega : j < k + 1), if_pos (by omega : j < k + 1)]
    · rw [if_neg h1, if_neg (by omega : ¬ j < k + 1)]
      have e1 : (j - k < ls.length - k) ↔ (j - (k + 1) < ls.length - (k + 1)) := by omega
      by_cases h2 : j - k < ls.length - k
      · rw [if_pos h2, if_pos (e1.1 h2)]
      · rw [if_neg h2, if_neg (fun h3 => h2 (e1.2 h3))]
end Ro

end Go.Proofs.Ytdhaaodalchpkab

/-
  One list more behind lists of one's own.
-/
namespace Go.Proofs.Ytdhaaodalchpkab
open Go.RowKit

/-- A call answers lists of its own. -/
def RowsPost (ls : List (List Int)) (w : World) (e : Ending) (w' : World) : Prop := ∃ v vs, e = .returned v ∧ RowsZ w' w.heap.size v vs ls ∧ Below w.heap.size w w'

/-- 'append(v, x)', v lists of one's own since block B (told in world W0), x a list that a call has made since. -/
theorem wpList_pushRow {ops : Array Oper} {rest : List Oper} {o : Oper} {a : Act} {Q : Exit → Act → World → Prop} (hgd : o.guard = none) (s x : Operand) (T : TypeId) (hT : Try.prog.underlying T = some (.slice 34))
    (ho : o.op = .call { callee := .builtin .append, args := #[s, x], argTypes := #[T, T] }) (W0 W : World) (B : Nat) (v : Value) (vs : List Value) (ls : List (List Int)) (y : Value) (l : List Int) (hr : RowsZ W0 B v vs ls) (hb : Below W0.heap.size W0 W)
    (hy : OwnZ W W0.heap.size y l) (hB : B ≤ W0.heap.size) (hl : ls.length ≤ 5864062014804) (hs : a.eval s = v) (hx : a.eval x = .slice (some ⟨W.heap.size, 0, none⟩) 1 1)
    (h : ∀ v' w', RowsZ w' B v' (vs ++ [y]) (ls ++ [l]) → Below B W0 w' → wpList Try.prog ops Q rest (a.put o.dst v') w') :
    wpList Try.prog ops Q (o :: rest) a (W.alloc (.cells #[y] 34)) := by
  obtain ⟨i0, hi, hz0, hz1, hz2⟩ := info_parts Try.infoRow
  have hW := hb.size
  have hr1 : RowsZ W B v vs ls := hr.later hb
  have hb0 : Below B W (W.alloc (.cells #[y] 34)) := (Below.refl _ _).alloc (by omega) _
  have hyv : ∃ ao c, y = .slice ao l.length c := by
    obtain ⟨ao, c, e, -⟩ := hy.form
    exact ⟨ao, c, e⟩
  obtain ⟨yo, yc, rfl⟩ := hyv
  refine wpList_append_own_at _ hgd s x T ho B 34 i0 (.slice none 0 0) 1 24 hT hi hz0 hz1 hz2 rfl (by decide) _ _ _ hs (World.ownsRow.alloc hr1.outer _) ⟨W.heap.size, 0, none⟩ 1 1 [.slice yo l.length yc] hx rfl (cell_one_new _ _ _) (by simp [Value.oneCell']) (by unfold maxLen; omega) (by omega) (by simp; omega) ?_
  intro v' w' hown' hg _ hat
  have hnew : ∀ b, Value.ownBlock (.slice yo l.length yc) = some b → W0.heap.size ≤ b := fun b hb => (World.ownsRow.lt hy b hb).1
  have hRZ : RowsZ w' B v' (vs ++ [.slice yo l.length yc]) (ls ++ [l]) := by
    refine hr1.grow (hy.lower hB) (fun u z b hz hzb e => ?_) (fun b hvb e => ?_) (tmp := .cells #[.slice yo l.length yc] 34) hown' hg ?_
    · obtain ⟨k, hk⟩ := hr.at hz
      have h1 := (World.ownsRow.lt (hr.row u z k hz hk) b hzb).2
      have h2 := hnew b e
      omega
    · have h1 := (World.ownsRow.lt hr.outer b hvb).2
      have h2 := hnew b e
      omega
    · rcases hat with h1 | h1
      · exact .inl h1
      · exact .inr (by simpa using h1)
  refine h v' w' hRZ ((hb.mono hB).trans (hb0.grown hg (by simp; omega) (fun b hvb => (World.ownsRow.lt hr1.outer b hvb).1)))

end Go.Proofs.Ytdhaaodalchpkab

/-
  A list more behind lists of one's own, whatever else is one's own beside them: which blocks stay.
-/
namespace Go.Proofs.Ytdhaaodalchpkab
open Go.RowKit

/-- 'append(v, y)', v lists of one's own, y one that shares no block with them: what is not v's outer block stays. -/
theorem wpList_pushRowG {ops : Array Oper} {rest : List Oper} {o : Oper} {a : Act} {Q : Exit → Act → World → Prop} (hgd : o.guard = none) (s x : Operand) (T : TypeId) (hT : Try.prog.underlying T = some (.slice 34))
    (ho : o.op = .call { callee := .builtin .append, args := #[s, x], argTypes := #[T, T] }) (W : World) (B : Nat) (v : Value) (vs : List Value) (ls : List (List Int)) (y : Value) (l : List Int) (hr : RowsZ W B v vs ls)
    (hy : OwnZ W B y l) (h1 : ∀ (u : Nat) (z : Value) (b : Nat), vs[u]? = some z → z.ownBlock = some b → y.ownBlock ≠ some b) (h2 : ∀ b, v.ownBlock = some b → y.ownBlock ≠ some b) (hB : B ≤ W.heap.size) (hl : ls.length ≤ 5864062014804) (hs : a.eval s = v) (hx : a.eval x = .slice (some ⟨W.heap.size, 0, none⟩) 1 1)
    (h : ∀ v' w', RowsZ w' B v' (vs ++ [y]) (ls ++ [l]) → (∀ b, b < W.heap.size → v.ownBlock ≠ some b → w'.heap[b]? = W.heap[b]?) → (v'.ownBlock = v.ownBlock ∨ ∀ b, v'.ownBlock = some b → W.heap.size ≤ b) → Below B W w' → wpList Try.prog ops Q rest (a.put o.dst v') w') :
    wpList Try.prog ops Q (o :: rest) a (W.alloc (.cells #[y] 34)) := by
  obtain ⟨i0, hi, hz0, hz1, hz2⟩ := info_parts Try.infoRow
  have hb0 : Below B W (W.alloc (.cells #[y] 34)) := (Below.refl _ _).alloc (by omega) _
  have hyv : ∃ ao c, y = .slice ao l.length c := by
    obtain ⟨ao, c, e, -⟩ := hy.form
    exact ⟨ao, c, e⟩
  obtain ⟨yo, yc, rfl⟩ := hyv
  refine wpList_append_own_at _ hgd s x T ho B 34 i0 (.slice none 0 0) 1 24 hT hi hz0 hz1 hz2 rfl (by decide) _ _ _ hs (World.ownsRow.alloc hr.outer _) ⟨W.heap.size, 0, none⟩ 1 1 [.slice yo l.length yc] hx rfl (cell_one_new _ _ _) (by simp [Value.oneCell']) (by unfold maxLen; omega) (by omega) (by simp; omega) ?_
  intro v' w' hown' hg _ hat
  have hRZ : RowsZ w' B v' (vs ++ [.slice yo l.length yc]) (ls ++ [l]) := by
    refine hr.grow hy h1 h2 (tmp := .cells #[.slice yo l.length yc] 34) hown' hg ?_
    rcases hat with h1 | h1
    · exact .inl h1
    · exact .inr (by simpa using h1)
  refine h v' w' hRZ (fun b hb hne => ?_) ?_ (hb0.grown hg (by simp; omega) (fun b hvb => (World.ownsRow.lt hr.outer b hvb).1))
  · exact (hg.block b (by simp; omega) (fun e => hne e.symm)).trans (Below.heap_alloc W _ b hb)
  · rcases hat with h1 | h1
    · exact .inl h1
    · refine .inr fun b hb => ?_
      rw [h1] at hb
      have := Option.some.inj hb
      simp at this
      omega

end Go.Proofs.Ytdhaaodalchpkab
