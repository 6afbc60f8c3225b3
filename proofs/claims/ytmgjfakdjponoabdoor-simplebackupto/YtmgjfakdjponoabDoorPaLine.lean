/-
  What the reader does with a line; and what it holds between two lines.
-/
import Derived.Test.YtmgjfakdjponoabDoorPaEdge
namespace Go.Proofs.YtmgjfakdjponoabDoor
open Go.RowKit

namespace Pa
theorem header_code {s : St} {l : List Nu.Tok} {x : Int × Int} (h : header s l = .error x) : 20 ≤ x.1 ∧ x.1 ≤ 26 := by
  unfold header at h
  split at h
  · cases h; simp
  · split at h
    · cases h; simp
    · split at h
      · cases h; simp
      · cases h
theorem edge_code {s : St} {l : List Nu.Tok} {x : Int × Int} (h : edge s l = .error x) : 20 ≤ x.1 ∧ x.1 ≤ 26 := by
  unfold edge at h
  split at h
  · cases h; simp
  · split at h
    · cases h; simp
    · split at h
      · cases h; simp
      · split at h
        · cases h; simp
        · cases h
theorem line_code {s : St} {l : List Nu.Tok} {x : Int × Int} (h : line s l = .error x) : 20 ≤ x.1 ∧ x.1 ≤ 26 := by
  unfold line at h
  split at h
  · exact edge_code h
  · exact header_code h
theorem fin_code {s : St} {a : Int} {x : Int × Int} (h : fin s a = .error x) : 20 ≤ x.1 ∧ x.1 ≤ 26 := by
  unfold fin at h
  split at h
  · cases h; simp
  · split at h
    · cases h; simp
    · cases h
theorem fin_ok {s s' : St} {a : Int} (h : fin s a = .ok s') : s' = s := by
  unfold fin at h
  split at h
  · cases h
  · split at h
    · cases h
    · cases h; rfl
theorem line_grows {s s' : St} {l : List Nu.Tok} (h : line s l = .ok s') : s'.pairs.length ≤ s.pairs.length + 1 := by
  unfold line at h
  split at h
  · unfold edge at h
    split at h
    · cases h
    · split at h
      · cases h
      · split at h
        · cases h
        · split at h
          · cases h
          · cases h; simp
  · unfold header at h
    split at h
    · cases h
    · split at h
      · cases h
      · split at h
        · cases h
        · cases h; simp
end Pa

theorem head_line (B b : Nat) (s : Pa.St) (v : Value) (T o cap : Nat) (l : List Nu.Tok) (w : World) (hr : Rdr w b s v) (hp : OwnPairs w B v s.pairs) (hl : LineAt w T o l) (hne : l ≠ []) (hlen : l.length ≤ 33554433) (hTb : T ≠ b) (hb : b < B) :
    Calls Tryd.prog 75 #[.pointer (some ⟨b, 0, none⟩), .slice (some ⟨T, o, none⟩) l.length cap] w (LinePost B b v (Pa.header s l) w) := by
  refine (header_any b s v T o cap l w hr hl hne hlen hTb).mono ?_
  rintro e w1 ⟨he, hg, hx⟩
  refine ⟨he, Kept.of_grown hg, ?_⟩
  unfold LineOut
  cases hh : Pa.header s l with
  | error x => trivial
  | ok s' =>
    rw [hh] at hx
    refine ⟨v, hx, ?_, fun g h => .inl h⟩
    have e : s'.pairs = s.pairs := by
      unfold Pa.header at hh
      split at hh
      · cases hh
      · split at hh
        · cases hh
        · split at hh
          · cases hh
          · cases hh; rfl
    rw [e]
    exact hp.grown hg hb

/-- The result's cells lie where they lay. -/
theorem line_res {b : Nat} {v : Value} {w w1 : World} (hlt : b < w.heap.size) (hf : ∀ g, v.ownBlock = some g → g < w.heap.size) (hk : Kept b v (w.alloc (.cells #[.int .i64 0, .int .i64 0] 41)) w1) :
    w1.heap[w.heap.size]? = some (.cells #[.int .i64 0, .int .i64 0] 41 (0, 0)) := by
  rw [hk.block w.heap.size (by simp) (by omega) (fun h => by have := hf _ h.symm; omega)]
  exact heap_alloc_new w _

/-- What is left behind, the result stored. -/
theorem line_end {B b : Nat} {v : Value} {r : Except (Int × Int) Pa.St} {w w1 : World} {x : Obj} (hlt : b < w.heap.size) (hf : ∀ g, v.ownBlock = some g → g < w.heap.size) (hk : Kept b v (w.alloc x) w1) (ho : LineOut B b v r (w.alloc x) w1) (a0 a1 : Value) :
    Kept b v w ((w1.setCell ⟨w.heap.size, 0, none⟩ a0).setCell ⟨w.heap.size, 1, none⟩ a1) ∧ LineOut B b v r w ((w1.setCell ⟨w.heap.size, 0, none⟩ a0).setCell ⟨w.heap.size, 1, none⟩ a1) := by
  have hother : ∀ k, k ≠ w.heap.size → ((w1.setCell ⟨w.heap.size, 0, none⟩ a0).setCell ⟨w.heap.size, 1, none⟩ a1).heap[k]? = w1.heap[k]? := fun k h => by
    rw [heap_setCell_other _ ⟨w.heap.size, 1, none⟩ k a1 h, heap_setCell_other _ ⟨w.heap.size, 0, none⟩ k a0 h]
  have hsz : w.heap.size + 1 ≤ w1.heap.size := by simpa using hk.size
  refine ⟨⟨hk.os, hk.tape, hk.output, by simp; omega, fun k hk1 h1 h2 => ?_⟩, ?_⟩
  · rw [hother k (by omega), hk.block k (by simp; omega) h1 h2]
    exact Below.heap_alloc w x k hk1
  · cases r with
    | error y => trivial
    | ok s' =>
      obtain ⟨v', hr, hp, hg⟩ := ho
      refine ⟨v', (hother b (by omega)).trans hr, ⟨hp.1, ?_⟩, fun g h => ?_⟩
      · rcases hp.2 with h | ⟨g, cap, cur, rfl, hgB, hh, hrest⟩
        · exact .inl h
        · refine .inr ⟨g, cap, cur, rfl, hgB, (hother g ?_).trans hh, hrest⟩
          rcases hg g rfl with h | h
          · have := hf g h; omega
          · simp at h; omega
      · rcases hg g h with h | h
        · exact .inl h
        · exact .inr (by simp at h; omega)

set_option maxHeartbeats 2000000 in
theorem line_any (B b : Nat) (s : Pa.St) (v : Value) (T o cap : Nat) (l : List Nu.Tok) (w : World) (hr : Rdr w b s v) (hp : OwnPairs w B v s.pairs) (hl : LineAt w T o l) (hne : l ≠ []) (hlen : l.length ≤ 33554433) (hTb : T ≠ b) (hT : T < B) (hb : b < B) (hB : B ≤ w.heap.size) (hps : s.pairs.length ≤ 33554432) :
    Calls Tryd.prog 62 #[.pointer (some ⟨b, 0, none⟩), .slice (some ⟨T, o, none⟩) l.length cap] w (LinePost B b v (Pa.line s l) w) := by
  have hlt := hr.lt
  have c0 := hr.c0
  have hfar : ∀ g, v.ownBlock = some g → g < w.heap.size := fun g h => by
    obtain ⟨ao, cap, rfl, _, hx⟩ := hp.form
    cases ao with
    | none => simp [Value.ownBlock] at h
    | some x => have := hx x rfl; simp [Value.ownBlock] at h; omega
  have hbw0 : Below w.heap.size w (w.alloc (.cells #[.int .i64 0, .int .i64 0] 41)) := (Below.refl _ _).alloc (Nat.le_refl _) _
  have hr0 := hr.below hbw0 hlt
  have hp0 := hp.below hbw0 (Nat.le_refl _)
  have hl0 := hl.below hbw0 (by omega)
  have HR := Nu.hid hr0
  have HP := Nu.hid hp0
  have HL := Nu.hid hl0
  have HB0 := Nu.hid hbw0
  have HF := Nu.hid hfar
  clear hr hp hl hr0 hp0 hl0 hbw0 hfar
  unfold Pa.line
  cases hbg : s.begun
  · rw [if_neg (by simp)]
    rw [hbg] at c0
    have HBG := Nu.hid hbg
    clear hbg
    go_enter Tryd.func62, Tryd.ntmps62
    go_wp2_with (go_at_call 75; refine (head_line B b s v T o cap l _ HR.out HP.out HL.out hne hlen hTb hb).mono ?_; rintro e w1 ⟨rfl, hk, ho⟩; obtain ⟨z0, z1, z2⟩ := two_cells (line_res hlt HF.out hk); unfold outVal rejVal; have HK := Nu.hid hk; have HO := Nu.hid ho; clear hk ho)
    refine bodyPost_ret (v := outVal (Pa.header s l)) (by simp [results, Tryd.results62, go_sem, *]; rfl) rfl ⟨rfl, line_end hlt HF.out HK.out HO.out _ _⟩
  · rw [if_pos rfl]
    rw [hbg] at c0
    have HBG := Nu.hid hbg
    clear hbg
    go_enter Tryd.func62, Tryd.ntmps62
    go_wp2_with (go_at_call 76; refine (edge_any B b s v T o cap l _ HR.out HP.out HL.out hne hlen hT hb (by simp; omega) hps).mono ?_; rintro e w1 ⟨rfl, hk, ho⟩; obtain ⟨z0, z1, z2⟩ := two_cells (line_res hlt HF.out hk); unfold outVal rejVal; have HK := Nu.hid hk; have HO := Nu.hid ho; clear hk ho)
    refine bodyPost_ret (v := outVal (Pa.edge s l)) (by simp [results, Tryd.results62, go_sem, *]; rfl) rfl ⟨rfl, line_end hlt HF.out HK.out HO.out _ _⟩

theorem line_err (B b : Nat) (s : Pa.St) (v : Value) (T o cap ln : Nat) (l : List Nu.Tok) (w : World) (x : Int × Int) (hx : Pa.line s l = .error x) (hr : Rdr w b s v) (hp : OwnPairs w B v s.pairs) (hl : LineAt w T o l) (hln : ln = l.length) (hne : l ≠ []) (hlen : l.length ≤ 33554433) (hTb : T ≠ b) (hT : T < B) (hb : b < B) (hB : B ≤ w.heap.size) (hps : s.pairs.length ≤ 33554432) :
    Calls Tryd.prog 62 #[.pointer (some ⟨b, 0, none⟩), .slice (some ⟨T, o, none⟩) ln cap] w fun e w' => e = .returned (rejVal x) ∧ Kept b v w w' := by
  subst hln
  refine (line_any B b s v T o cap l w hr hp hl hne hlen hTb hT hb hB hps).mono ?_
  rw [hx]
  exact fun e w' h => ⟨h.1, h.2.1⟩

theorem line_ok (B b : Nat) (s : Pa.St) (v : Value) (T o cap ln : Nat) (l : List Nu.Tok) (w : World) (s' : Pa.St) (hx : Pa.line s l = .ok s') (hr : Rdr w b s v) (hp : OwnPairs w B v s.pairs) (hl : LineAt w T o l) (hln : ln = l.length) (hne : l ≠ []) (hlen : l.length ≤ 33554433) (hTb : T ≠ b) (hT : T < B) (hb : b < B) (hB : B ≤ w.heap.size) (hps : s.pairs.length ≤ 33554432) :
    Calls Tryd.prog 62 #[.pointer (some ⟨b, 0, none⟩), .slice (some ⟨T, o, none⟩) ln cap] w fun e w' => e = .returned (rejVal (0, 0)) ∧ Kept b v w w' ∧ ∃ v', Rdr w' b s' v' ∧ OwnPairs w' B v' s'.pairs := by
  subst hln
  refine (line_any B b s v T o cap l w hr hp hl hne hlen hTb hT hb hB hps).mono ?_
  rw [hx]
  exact fun e w' ⟨h1, h2, v', h3, h4, _⟩ => ⟨h1, h2, v', h3, h4⟩

theorem end_err (B b : Nat) (s : Pa.St) (v : Value) (t : Nu.Tok) (w : World) (x : Int × Int) (hx : Pa.fin s t.at' = .error x) (hr : Rdr w b s v) (hp : OwnPairs w B v s.pairs) :
    Calls Tryd.prog 63 #[.pointer (some ⟨b, 0, none⟩), tokVal t] w fun e w' => e = .returned (rejVal x) ∧ Below w.heap.size w w' := by
  obtain ⟨ao, cap, rfl, _⟩ := hp.form
  refine (end_any b s ao cap t w hr).mono ?_
  rw [hx]
  exact fun e w' h => h

theorem end_ok (B b : Nat) (s s' : Pa.St) (v : Value) (t : Nu.Tok) (w : World) (hx : Pa.fin s t.at' = .ok s') (hr : Rdr w b s v) (hp : OwnPairs w B v s.pairs) :
    Calls Tryd.prog 63 #[.pointer (some ⟨b, 0, none⟩), tokVal t] w fun e w' => e = .returned (rejVal (0, 0)) ∧ Below w.heap.size w w' := by
  obtain ⟨ao, cap, rfl, _⟩ := hp.form
  refine (end_any b s ao cap t w hr).mono ?_
  rw [hx]
  exact fun e w' h => h

theorem LineAt.drop {w : World} {T : Nat} {us vs : List Nu.Tok} (h : LineAt w T 0 (us ++ vs)) (k : Nat) : LineAt w T (k * 4) (us.drop k) := fun j t hj => by
  rw [List.getElem?_drop] at hj
  have hlt := (List.getElem?_eq_some_iff.1 hj).1
  have := h (k + j) t (by rw [List.getElem?_append_left hlt]; exact hj)
  rwa [show 0 + (k + j) * 4 = k * 4 + j * 4 by omega] at this

theorem OwnPairs.low {w : World} {B k : Nat} {v : Value} {ps : List (Int × Int)} (h : OwnPairs w B v ps) (hk : k < B) (i : Nat) (a : Value) : OwnPairs (w.setCell ⟨k, i, none⟩ a) B v ps := by
  refine ⟨h.1, ?_⟩
  rcases h.2 with h | ⟨g, cap, cur, e, hgB, hh, hr⟩
  · exact .inl h
  · exact .inr ⟨g, cap, cur, e, hgB, (heap_setCell_other w ⟨k, i, none⟩ g a (by simp; omega)).trans hh, hr⟩
theorem OwnPairs.base {w : World} {B A : Nat} {v : Value} {ps : List (Int × Int)} (h : OwnPairs w B v ps) (hA : A ≤ B) : OwnPairs w A v ps := by
  refine ⟨h.1, ?_⟩
  rcases h.2 with h | ⟨g, cap, cur, e, hgB, hr⟩
  · exact .inl h
  · exact .inr ⟨g, cap, cur, e, by omega, hr⟩
theorem OwnPairs.drewN {w : World} {B : Nat} {v : Value} {ps : List (Int × Int)} (h : OwnPairs w B v ps) (k : Nat) : OwnPairs (w.drewN k) B v ps := h
theorem OwnPairs.drew {w : World} {B : Nat} {v : Value} {ps : List (Int × Int)} (h : OwnPairs w B v ps) : OwnPairs w.drew B v ps := h

end Go.Proofs.YtmgjfakdjponoabDoor
