/-
  What the document's own Raw holds in memory: what is told so far, its two lists in memory of their own.
-/
import Derived.Test.YtmcbinooihkjhaaPaLines
namespace Go.Proofs.Ytmcbinooihkjhaa
open Go.RowKit

theorem Try.infoInt : (Try.prog.info? 3).map (fun i => (i.zero, i.size, i.bytes)) = some (some (.int .i64 0), 1, 8) := by kernel_rfl

def toldVal (n : Int) (U V : Value) (c a : Int) : Value := .agg #[.int .i64 n, U, V, .int .i64 c, .int .i64 a]

/-- v is a list of the numbers zs, laid since block B. -/
def OwnInts (w : World) (B : Nat) (v : Value) (zs : List Int) : Prop := w.ownsRow B 3 1 v zs.length (zs.map (Value.int .i64))

def ToldPost (r : Except (Int × Int) Pa.St) (w : World) (e : Ending) (w' : World) : Prop :=
  Below w.heap.size w w' ∧
  ((∃ x, r = .error x ∧ e = .returned (toldVal 0 (.slice none 0 0) (.slice none 0 0) x.1 x.2)) ∨
   (∃ s U V, r = .ok s ∧ e = .returned (toldVal s.n U V 0 0) ∧ OwnInts w' w.heap.size U (s.pairs.map Prod.fst) ∧ OwnInts w' w.heap.size V (s.pairs.map Prod.snd)))

set_option maxHeartbeats 400000 in
theorem fault_any (c a : Int) (w : World) :
    Calls Try.prog 9 #[.int .i64 c, .int .i64 a] w fun e w' => e = .returned (toldVal 0 (.slice none 0 0) (.slice none 0 0) c a) ∧ Below w.heap.size w w' := by
  unfold toldVal
  go_enter Try.func9, Try.ntmps9
  go_wp2
  exact bodyPost_ret (v := .agg #[.int .i64 0, .slice none 0 0, .slice none 0 0, .int .i64 c, .int .i64 a]) (by simp [results, Try.results9, go_sem]) rfl ⟨rfl, (Below.refl _ _).alloc (Nat.le_refl _) _⟩

theorem five_cells {w : World} {r : Nat} {a b c d e : Value} {t : TypeId} (h : w.heap[r]? = some (.cells #[a, b, c, d, e] t (0, 0))) :
    w.cell? ⟨r, 0, none⟩ = some a ∧ w.cell? ⟨r, 1, none⟩ = some b ∧ w.cell? ⟨r, 2, none⟩ = some c ∧ w.cell? ⟨r, 3, none⟩ = some d ∧ w.cell? ⟨r, 4, none⟩ = some e ∧ ∀ i, w.frozen? ⟨r, i, none⟩ = false := by
  refine ⟨?_, ?_, ?_, ?_, ?_, fun i => ?_⟩ <;> simp [World.cell?, World.frozen?, h]

theorem OwnInts.form {w : World} {B : Nat} {v : Value} {zs : List Int} (h : OwnInts w B v zs) : ∃ ao cap, v = .slice ao zs.length cap ∧ zs.length ≤ cap := by
  rcases h.2 with ⟨rfl, h0⟩ | ⟨g, cap, cur, rfl, hg, hh, hc, _⟩
  · exact ⟨none, 0, by rw [h0], by omega⟩
  · exact ⟨_, cap, rfl, hc⟩
theorem OwnInts.base {w : World} {B A : Nat} {v : Value} {zs : List Int} (h : OwnInts w B v zs) (hA : A ≤ B) : OwnInts w A v zs := by
  refine ⟨h.1, ?_⟩
  rcases h.2 with h | ⟨g, cap, cur, e, hgB, hr⟩
  · exact .inl h
  · exact .inr ⟨g, cap, cur, e, by omega, hr⟩
theorem OwnInts.below {w w' : World} {B A : Nat} {v : Value} {zs : List Int} (h : OwnInts w B v zs) (hb : Below A w w') (hA : w.heap.size ≤ A) : OwnInts w' B v zs := by
  refine ⟨h.1, ?_⟩
  rcases h.2 with h | ⟨g, cap, cur, e, hgB, hh, hr⟩
  · exact .inl h
  · exact .inr ⟨g, cap, cur, e, hgB, (hb.block g (by have := lt_of_block hh; omega)).trans hh, hr⟩

/-- The result, empty. -/
structure One (w w1 : World) : Prop where
  bel : Below w.heap.size w w1
  res : w1.heap[w.heap.size]? = some (.cells #[.int .i64 0, .slice none 0 0, .slice none 0 0, .int .i64 0, .int .i64 0] 26 (0, 0))

theorem One.new (w : World) : One w (w.alloc (.cells #[.int .i64 0, .slice none 0 0, .slice none 0 0, .int .i64 0, .int .i64 0] 26)) :=
  ⟨(Below.refl _ _).alloc (Nat.le_refl _) _, heap_alloc_new w _⟩
theorem One.size {w w1 : World} (h : One w w1) : w.heap.size + 1 ≤ w1.heap.size := lt_of_block h.res
theorem One.below {w w1 w2 : World} {B : Nat} (h : One w w1) (hb : Below B w1 w2) (hB : w1.heap.size ≤ B) : One w w2 :=
  ⟨h.bel.trans (hb.mono (by have := h.size; omega)), (hb.block _ (by have := h.size; omega)).trans h.res⟩
theorem One.drewN {w w1 : World} (h : One w w1) (k : Nat) : One w (w1.drewN k) := ⟨below_drewN h.bel k, h.res⟩

theorem LinesAt.below {w w' : World} {v : Value} {ls : List (List Nu.Tok)} {B : Nat} (h : LinesAt w v ls) (hb : Below B w w') (hB : w.heap.size ≤ B) : LinesAt w' v ls := by
  obtain ⟨ao, cap, rfl, hx⟩ := h
  refine ⟨ao, cap, rfl, fun j l hj => ?_⟩
  obtain ⟨hne, O, g, cc, ha, hc, hl⟩ := hx j l hj
  have h1 := block_lt_of_cell hc
  have h2 := (hl.fst hne).lt
  exact ⟨hne, O, g, cc, ha, (hb.cell (p := ⟨O, j, none⟩) (show O < B by simp at h1; omega)).trans hc, hl.below hb (by omega)⟩

/-- What is told so far: block tb, with the numbers zu and zv. -/
structure TInv (tb : Nat) (w2 wr : World) (n0 : Int) (U V : Value) (zu zv : List Int) : Prop where
  bel : Below tb w2 wr
  told : wr.heap[tb]? = some (.cells #[.int .i64 n0, U, V, .int .i64 0, .int .i64 0] 26 (0, 0))
  us : OwnInts wr (tb + 1) U zu
  vs : OwnInts wr (tb + 1) V zv
  apart : ∀ g, U.ownBlock = some g → V.ownBlock ≠ some g

theorem TInv.size {tb : Nat} {w2 wr : World} {n0 : Int} {U V : Value} {zu zv : List Int} (h : TInv tb w2 wr n0 U V zu zv) : tb + 1 ≤ wr.heap.size := lt_of_block h.told
theorem TInv.alloc {tb : Nat} {w2 wr : World} {n0 : Int} {U V : Value} {zu zv : List Int} (h : TInv tb w2 wr n0 U V zu zv) (o : Obj) : TInv tb w2 (wr.alloc o) n0 U V zu zv :=
  ⟨h.bel.alloc (by have := h.size; omega) o, (Below.heap_alloc wr o _ (lt_of_block h.told)).trans h.told, World.ownsRow.alloc h.us o, World.ownsRow.alloc h.vs o, h.apart⟩
theorem TInv.drew {tb : Nat} {w2 wr : World} {n0 : Int} {U V : Value} {zu zv : List Int} (h : TInv tb w2 wr n0 U V zu zv) : TInv tb w2 wr.drew n0 U V zu zv := ⟨h.bel.drew, h.told, h.us, h.vs, h.apart⟩

theorem own_set {w : World} {B : Nat} {e : TypeId} {size n k : Nat} {v : Value} {xs : List Value} (h : w.ownsRow B e size v n xs) (hk : k < B) (i : Nat) (a : Value) : (w.setCell ⟨k, i, none⟩ a).ownsRow B e size v n xs := by
  refine ⟨h.1, ?_⟩
  rcases h.2 with h | ⟨g, cap, cur, e, hgB, hh, hr⟩
  · exact .inl h
  · exact .inr ⟨g, cap, cur, e, hgB, (heap_setCell_other w ⟨k, i, none⟩ g a (by simp; omega)).trans hh, hr⟩

/-- Blocks that an append to the list v leaves alone. -/
theorem app_other {W w1 : World} {x : Obj} {v : Value} (hg : (W.alloc x).grownBy w1 v.ownBlock) {k : Nat} (hk : k < W.heap.size) (hne : some k ≠ v.ownBlock) : w1.heap[k]? = W.heap[k]? :=
  (hg.block k (by simp; omega) hne).trans (Below.heap_alloc W x k hk)

theorem TInv.pushU {tb : Nat} {w2 W w1 : World} {n0 z : Int} {U U' V : Value} {zu zv : List Int} {x : Obj} (h : TInv tb w2 W n0 U V zu zv) (hown : w1.ownsRow (tb + 1) 3 1 U' (zu.length + 1) (zu.map (Value.int .i64) ++ [.int .i64 z]))
    (hg : (W.alloc x).grownBy w1 U.ownBlock) (hat : U'.ownBlock = U.ownBlock ∨ U'.ownBlock = some (W.heap.size + 1)) : TInv tb w2 (w1.setCell ⟨tb, 1, none⟩ U') n0 U' V (zu ++ [z]) zv := by
  have hs := h.size
  have hne : some tb ≠ U.ownBlock := fun e => by have := (h.us.lt tb e.symm).1; omega
  have ht : w1.heap[tb]? = some (.cells #[.int .i64 n0, U, V, .int .i64 0, .int .i64 0] 26 (0, 0)) := (app_other hg (by omega) hne).trans h.told
  refine ⟨(((h.bel.alloc (by omega) x).grown hg (by simp; omega) (fun k hk => by have := (h.us.lt k hk).1; omega))).setCell (by simp) _, ?_, own_set (k := tb) ?_ (by omega) 1 _, own_set (k := tb) ?_ (by omega) 1 _, fun g hgv => ?_⟩
  · have := heap_setCell_same w1 tb 1 _ _ U' ht
    simpa using this
  · rw [List.map_append, List.length_append]
    exact hown
  · refine (World.ownsRow.alloc h.vs x).kept hg ?_
    cases hv : U.ownBlock with
    | none => cases ho : V.ownBlock with
      | none => exact .inl rfl
      | some g => exact .inr (by simp)
    | some g => exact .inr (h.apart g hv)
  · rcases hat with e | e
    · exact h.apart g (by rw [← e]; exact hgv)
    · rw [e] at hgv
      intro ho
      have := (h.vs.lt g ho).2
      simp at hgv
      omega

theorem TInv.pushV {tb : Nat} {w2 W w1 : World} {n0 z : Int} {U V V' : Value} {zu zv : List Int} {x : Obj} (h : TInv tb w2 W n0 U V zu zv) (hown : w1.ownsRow (tb + 1) 3 1 V' (zv.length + 1) (zv.map (Value.int .i64) ++ [.int .i64 z]))
    (hg : (W.alloc x).grownBy w1 V.ownBlock) (hat : V'.ownBlock = V.ownBlock ∨ V'.ownBlock = some (W.heap.size + 1)) : TInv tb w2 (w1.setCell ⟨tb, 2, none⟩ V') n0 U V' zu (zv ++ [z]) := by
  have hs := h.size
  have hne : some tb ≠ V.ownBlock := fun e => by have := (h.vs.lt tb e.symm).1; omega
  have ht : w1.heap[tb]? = some (.cells #[.int .i64 n0, U, V, .int .i64 0, .int .i64 0] 26 (0, 0)) := (app_other hg (by omega) hne).trans h.told
  refine ⟨(((h.bel.alloc (by omega) x).grown hg (by simp; omega) (fun k hk => by have := (h.vs.lt k hk).1; omega))).setCell (by simp) _, ?_, own_set (k := tb) ?_ (by omega) 2 _, own_set (k := tb) ?_ (by omega) 2 _, fun g hgu => ?_⟩
  · have := heap_setCell_same w1 tb 2 _ _ V' ht
    simpa using this
  · refine (World.ownsRow.alloc h.us x).kept hg ?_
    cases hv : V.ownBlock with
    | none => cases ho : U.ownBlock with
      | none => exact .inl rfl
      | some g => exact .inr (by simp)
    | some g => exact .inr (fun e => h.apart g e hv)
  · rw [List.map_append, List.length_append]
    exact hown
  · rcases hat with e | e
    · rw [e]; exact h.apart g hgu
    · rw [e]
      have := (h.us.lt g hgu).2
      simp
      omega

namespace Pa
theorem lns_length : ∀ (cur ts : List Nu.Tok), (lns cur ts).length ≤ ts.length
  | _, [] => by simp [lns]
  | cur, t :: ts => by
    unfold lns
    split
    · have := lns_length (cur ++ [t]) ts; simp; omega
    · split
      · have := lns_length [] ts; simp; omega
      · have := lns_length [] ts; simp; omega

theorem lns_mem : ∀ (cur ts : List Nu.Tok) (l : List Nu.Tok), l ∈ lns cur ts → ∀ t ∈ l, t ∈ cur ∨ t ∈ ts
  | _, [], l, h, t, _ => by simp [lns] at h
  | cur, u :: ts, l, h, t, ht => by
    unfold lns at h
    split at h
    · rcases lns_mem (cur ++ [u]) ts l h t ht with h | h
      · rcases List.mem_append.1 h with h | h
        · exact .inl h
        · simp at h; subst h; simp
      · exact .inr (List.mem_cons_of_mem _ h)
    · split at h
      · rcases lns_mem [] ts l h t ht with h | h
        · cases h
        · exact .inr (List.mem_cons_of_mem _ h)
      · rcases List.mem_cons.1 h with rfl | h
        · exact .inl ht
        · rcases lns_mem [] ts l h t ht with h | h
          · cases h
          · exact .inr (List.mem_cons_of_mem _ h)
end Pa

end Go.Proofs.Ytmcbinooihkjhaa
