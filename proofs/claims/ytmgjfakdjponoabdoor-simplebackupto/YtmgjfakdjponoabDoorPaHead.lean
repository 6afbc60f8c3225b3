/-
  What the reader does with the header's line.
-/
import Derived.Test.YtmgjfakdjponoabDoorPaSmall
namespace Go.Proofs.YtmgjfakdjponoabDoor
open Go.RowKit

/-- The cells of one token from place o of block T on. -/
def TokAt (w : World) (T o : Nat) (t : Nu.Tok) : Prop :=
  w.cell? ⟨T, o, none⟩ = some (.int .i64 t.kind) ∧ w.cell? ⟨T, o + 1, none⟩ = some (.int .i64 t.at') ∧ w.cell? ⟨T, o + 2, none⟩ = some (.int .i64 t.fin) ∧ w.cell? ⟨T, o + 3, none⟩ = some (.int .i64 t.num)

/-- The tokens l lie from place o of block T on. -/
def LineAt (w : World) (T o : Nat) (l : List Nu.Tok) : Prop := ∀ j t, l[j]? = some t → TokAt w T (o + j * 4) t

theorem TokAt.lt {w : World} {T o : Nat} {t : Nu.Tok} (h : TokAt w T o t) : T < w.heap.size := block_lt_of_cell h.1
theorem TokAt.below {w w' : World} {B T o : Nat} {t : Nu.Tok} (h : TokAt w T o t) (hb : Below B w w') (hT : T < B) : TokAt w' T o t :=
  ⟨(hb.cell (p := ⟨T, o, none⟩) hT).trans h.1, (hb.cell (p := ⟨T, o + 1, none⟩) hT).trans h.2.1, (hb.cell (p := ⟨T, o + 2, none⟩) hT).trans h.2.2.1, (hb.cell (p := ⟨T, o + 3, none⟩) hT).trans h.2.2.2⟩
theorem LineAt.below {w w' : World} {B T o : Nat} {l : List Nu.Tok} (h : LineAt w T o l) (hb : Below B w w') (hT : T < B) : LineAt w' T o l :=
  fun j t hj => (h j t hj).below hb hT
theorem LineAt.fst {w : World} {T o : Nat} {l : List Nu.Tok} (h : LineAt w T o l) (hl : l ≠ []) : TokAt w T o (Pa.tk l 0) := by
  cases l with
  | nil => exact absurd rfl hl
  | cons t l => simpa [Pa.tk] using h 0 t rfl
theorem LineAt.snd {w : World} {T o : Nat} {l : List Nu.Tok} (h : LineAt w T o l) (hl : l.length = 2) : TokAt w T (o + 4) (Pa.tk l 1) := by
  cases l with
  | nil => simp at hl
  | cons t l => cases l with
    | nil => simp at hl
    | cons u l => simpa [Pa.tk] using h 1 u rfl

theorem grownBy_refl (w : World) (r : Option Nat) : w.grownBy w r := ⟨rfl, rfl, rfl, Nat.le_refl _, fun _ _ _ => rfl⟩

theorem Rdr.put {w : World} {b : Nat} {s : Pa.St} {v : Value} (h : Rdr w b s v) (x : Bool) (n m : Int) (ps : List (Int × Int)) :
    Rdr (((w.setCell ⟨b, 0, none⟩ (.bool x)).setCell ⟨b, 1, none⟩ (.int .i64 n)).setCell ⟨b, 2, none⟩ (.int .i64 m)) b ⟨x, n, m, ps⟩ v := by
  unfold Rdr at h ⊢
  have h1 := heap_setCell_same w b 0 _ _ (.bool x) h
  have h2 := heap_setCell_same _ b 1 _ _ (.int .i64 n) h1
  have h3 := heap_setCell_same _ b 2 _ _ (.int .i64 m) h2
  simpa using h3
theorem Rdr.alloc {w : World} {b : Nat} {s : Pa.St} {v : Value} (h : Rdr w b s v) (o : Obj) : Rdr (w.alloc o) b s v := (Below.heap_alloc w o b h.lt).trans h

theorem below_part {w w' : World} {b : Option Nat} (h : Below w.heap.size w w') : w.grownBy w' b ∧ Below w.heap.size w w' := ⟨⟨h.os, h.tape, h.output, h.size, fun k hk _ => h.block k hk⟩, h⟩

set_option maxHeartbeats 2000000 in
theorem header_any (b : Nat) (s : Pa.St) (v : Value) (T o cap : Nat) (l : List Nu.Tok) (w : World) (hr : Rdr w b s v) (hl : LineAt w T o l) (hne : l ≠ []) (hlen : l.length ≤ 33554433) (hTb : T ≠ b) :
    Calls Tryd.prog 75 #[.pointer (some ⟨b, 0, none⟩), .slice (some ⟨T, o, none⟩) l.length cap] w fun e w' =>
      e = .returned (outVal (Pa.header s l)) ∧ w.grownBy w' (some b) ∧ match Pa.header s l with
        | .error _ => Below w.heap.size w w'
        | .ok s' => Rdr w' b s' v := by
  have hlt := hr.lt
  have hpos : 0 < l.length := List.length_pos_iff.2 hne
  have hTl := (hl.fst hne).lt
  obtain ⟨k0, k1, k2, k3⟩ := hl.fst hne
  have ap : (0 : Int) < (l.length : Int) := by omega
  unfold Pa.header outVal outX
  by_cases h2 : l.length = 2
  · have j0 : ((l.length : Int) != 2) = false := by simp; omega
    have ap1 : (1 : Int) < (l.length : Int) := by omega
    obtain ⟨q0, q1, q2, q3⟩ := hl.snd h2
    rw [if_neg (by omega)]
    by_cases hn : 1048576 < (Pa.tk l 0).num
    · rw [if_pos hn]
      go_enter Tryd.func75, Tryd.ntmps75
      go_wp2_with (go_at_call 77; refine (reject_any 21 (Pa.tk l 0) _).mono ?_; rintro e w1 ⟨rfl, hb⟩; unfold rejVal; obtain ⟨hc, hf⟩ := bcell hb; have hz := hb.size; simp at hz)
      refine bodyPost_ret (v := .agg #[.int .i64 21, .int .i64 (Pa.tk l 0).at']) (by simp [results, Tryd.results75, go_sem, hc]) rfl ⟨rfl, ?_⟩
      exact below_part ((((((Below.refl _ _).alloc (Nat.le_refl _) _)).trans (hb.mono (by simp))).setCell (by simp) _).setCell (by simp) _)
    · rw [if_neg hn]
      by_cases hm : 2097152 < (Pa.tk l 1).num
      · rw [if_pos hm]
        go_enter Tryd.func75, Tryd.ntmps75
        go_wp2_with (go_at_call 77; refine (reject_any 22 (Pa.tk l 1) _).mono ?_; rintro e w1 ⟨rfl, hb⟩; unfold rejVal; obtain ⟨hc, hf⟩ := bcell hb; have hz := hb.size; simp at hz)
        refine bodyPost_ret (v := .agg #[.int .i64 22, .int .i64 (Pa.tk l 1).at']) (by simp [results, Tryd.results75, go_sem, hc]) rfl ⟨rfl, ?_⟩
        exact below_part ((((((Below.refl _ _).alloc (Nat.le_refl _) _)).trans (hb.mono (by simp))).setCell (by simp) _).setCell (by simp) _)
      · rw [if_neg hm]
        have c0 := hr.c0
        have c1 := hr.c1
        have c2 := hr.c2
        have f0 := hr.free 0
        have f1 := hr.free 1
        have f2 := hr.free 2
        have hTb' : b ≠ T := fun h => hTb h.symm
        go_enter Tryd.func75, Tryd.ntmps75
        go_wp2_with fail
        go_region
        go_wp2
        refine bodyPost_ret (v := .agg #[.int .i64 0, .int .i64 0]) (by simp [results, Tryd.results75, go_sem]) rfl ⟨rfl, ?_, ?_⟩
        · exact grownBy_drew (grownBy_alloc' (grownBy_setCell (grownBy_setCell (grownBy_setCell (grownBy_refl _ _) 0 _) 1 _) 2 _) _)
        · exact (hr.put true _ _ s.pairs).alloc _
  · have j0 : ((l.length : Int) != 2) = true := by simp; omega
    rw [if_pos h2]
    go_enter Tryd.func75, Tryd.ntmps75
    go_wp2_with (go_at_call 77; refine (reject_any 20 (Pa.tk l 0) _).mono ?_; rintro e w1 ⟨rfl, hb⟩; unfold rejVal; obtain ⟨hc, hf⟩ := bcell hb; have hz := hb.size; simp at hz)
    refine bodyPost_ret (v := .agg #[.int .i64 20, .int .i64 (Pa.tk l 0).at']) (by simp [results, Tryd.results75, go_sem, hc]) rfl ⟨rfl, ?_⟩
    exact below_part ((((((Below.refl _ _).alloc (Nat.le_refl _) _)).trans (hb.mono (by simp))).setCell (by simp) _).setCell (by simp) _)

end Go.Proofs.YtmgjfakdjponoabDoor
