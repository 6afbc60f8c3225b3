/-
  What the reader does with an edge's line.
-/
import Derived.Test.YtmgjfakdjponoabDoorPaHead
import Derived.Deep.RegionLaw
namespace Go.Proofs.YtmgjfakdjponoabDoor
open Go.RowKit

theorem Tryd.infoPair : (Tryd.prog.info? 34).map (fun i => (i.zero, i.size, i.bytes)) = some (some (.agg #[.int .i64 0, .int .i64 0]), 2, 16) := by kernel_rfl

def flatP (ps : List (Int × Int)) : List Value := ps.flatMap fun p => [.int .i64 p.1, .int .i64 p.2]

theorem flatP_snoc (ps : List (Int × Int)) (p : Int × Int) : flatP (ps ++ [p]) = flatP ps ++ [.int .i64 p.1, .int .i64 p.2] := by simp [flatP]

/-- v is a slice of the pairs ps, laid since block B. -/
def OwnPairs (w : World) (B : Nat) (v : Value) (ps : List (Int × Int)) : Prop := w.ownsRow B 34 2 v ps.length (flatP ps)

/-- Nothing that was there has turned, but for block b and the block of the list v. -/
structure Kept (b : Nat) (v : Value) (w w' : World) : Prop where
  os : w'.os = w.os
  tape : w'.tape = w.tape
  output : w'.output = w.output
  size : w.heap.size ≤ w'.heap.size
  block : ∀ k, k < w.heap.size → k ≠ b → some k ≠ v.ownBlock → w'.heap[k]? = w.heap[k]?

theorem Kept.of_below {b : Nat} {v : Value} {w w' : World} (h : Below w.heap.size w w') : Kept b v w w' := ⟨h.os, h.tape, h.output, h.size, fun k hk _ _ => h.block k hk⟩
theorem Kept.of_grown {b : Nat} {v : Value} {w w' : World} (h : w.grownBy w' (some b)) : Kept b v w w' := ⟨h.os, h.tape, h.output, h.size, fun k hk hne _ => h.block k hk (by simpa using hne)⟩

/-- What a line leaves in the reader; its list lies where the old one lay, or in new memory. -/
def LineOut (B b : Nat) (v : Value) (r : Except (Int × Int) Pa.St) (w w' : World) : Prop := match r with
  | .error _ => True
  | .ok s' => ∃ v', Rdr w' b s' v' ∧ OwnPairs w' B v' s'.pairs ∧ ∀ g, v'.ownBlock = some g → v.ownBlock = some g ∨ w.heap.size ≤ g

def LinePost (B b : Nat) (v : Value) (r : Except (Int × Int) Pa.St) (w : World) (e : Ending) (w' : World) : Prop :=
  e = .returned (outVal r) ∧ Kept b v w w' ∧ LineOut B b v r w w'

theorem OwnPairs.form {w : World} {B : Nat} {v : Value} {ps : List (Int × Int)} (h : OwnPairs w B v ps) : ∃ ao cap, v = .slice ao ps.length cap ∧ ps.length ≤ cap ∧ (∀ x, ao = some x → B ≤ x.block ∧ x.block < w.heap.size) := by
  rcases h.2 with ⟨rfl, h0⟩ | ⟨g, cap, cur, rfl, hg, hh, hc, _⟩
  · exact ⟨none, 0, by rw [h0], by omega, fun x h => by cases h⟩
  · exact ⟨_, cap, rfl, hc, fun x h => by cases h; exact ⟨hg, lt_of_block hh⟩⟩
theorem OwnPairs.far {w : World} {B b : Nat} {v : Value} {ps : List (Int × Int)} (h : OwnPairs w B v ps) (hb : b < B) : v.ownBlock ≠ some b := by
  obtain ⟨ao, cap, rfl, _, hx⟩ := h.form
  cases ao with
  | none => simp [Value.ownBlock]
  | some x => have := hx x rfl; simp [Value.ownBlock]; omega
theorem OwnPairs.grown {w w' : World} {B b : Nat} {v : Value} {ps : List (Int × Int)} (h : OwnPairs w B v ps) (hg : w.grownBy w' (some b)) (hb : b < B) : OwnPairs w' B v ps := by
  refine ⟨h.1, ?_⟩
  rcases h.2 with h | ⟨g, cap, cur, e, hgB, hh, hr⟩
  · exact .inl h
  · exact .inr ⟨g, cap, cur, e, hgB, (hg.block g (lt_of_block hh) (by simp; omega)).trans hh, hr⟩
theorem OwnPairs.below {w w' : World} {B A : Nat} {v : Value} {ps : List (Int × Int)} (h : OwnPairs w B v ps) (hb : Below A w w') (hA : w.heap.size ≤ A) : OwnPairs w' B v ps := by
  refine ⟨h.1, ?_⟩
  rcases h.2 with h | ⟨g, cap, cur, e, hgB, hh, hr⟩
  · exact .inl h
  · exact .inr ⟨g, cap, cur, e, hgB, (hb.block g (by have := lt_of_block hh; omega)).trans hh, hr⟩

theorem two_cells {w : World} {r : Nat} {a b : Value} {t : TypeId} (h : w.heap[r]? = some (.cells #[a, b] t (0, 0))) : w.cell? ⟨r, 0, none⟩ = some a ∧ w.cell? ⟨r, 1, none⟩ = some b ∧ ∀ i, w.frozen? ⟨r, i, none⟩ = false := by
  refine ⟨?_, ?_, fun i => ?_⟩ <;> simp [World.cell?, World.frozen?, h]

/-- The list stored anew. -/
theorem Rdr.store {w : World} {b : Nat} {s : Pa.St} {v : Value} (h : Rdr w b s v) (v' : Value) (ps : List (Int × Int)) : Rdr (w.setCell ⟨b, 3, none⟩ v') b ⟨s.begun, s.n, s.m, ps⟩ v' := by
  unfold Rdr at h ⊢
  have h1 := heap_setCell_same w b 3 _ _ v' h
  simpa using h1

/-- What stands behind an edge's line that is right. -/
theorem edge_end {B b : Nat} {s : Pa.St} {va : Option Addr} {vc gg cap1 : Nat} {p q : Int} {w W w1 : World} {x : Obj} (hlt : b < w.heap.size) (hb : b < B) (hbW : Below w.heap.size w W) (hsW : W.heap.size = w.heap.size + 1)
    (hr : Rdr W b s (.slice va s.pairs.length vc)) (hp : OwnPairs W B (.slice va s.pairs.length vc) s.pairs) (hv : ∀ x, va = some x → B ≤ x.block ∧ x.block < w.heap.size)
    (hown : w1.ownsRow B 34 2 (.slice (some ⟨gg, 0, none⟩) (s.pairs.length + 1) cap1) (s.pairs.length + 1) (flatP s.pairs ++ [.int .i64 p, .int .i64 q])) (hg : (W.alloc x).drew.grownBy w1 (Value.slice va s.pairs.length vc).ownBlock)
    (hat : (Value.slice va s.pairs.length vc).ownBlock = some gg ∨ gg = W.heap.size + 1) (a0 a1 : Value) :
    Kept b (.slice va s.pairs.length vc) w (((w1.setCell ⟨b, 3, none⟩ (.slice (some ⟨gg, 0, none⟩) (s.pairs.length + 1) cap1)).setCell ⟨w.heap.size, 0, none⟩ a0).setCell ⟨w.heap.size, 1, none⟩ a1) ∧
    ∃ v', Rdr (((w1.setCell ⟨b, 3, none⟩ (.slice (some ⟨gg, 0, none⟩) (s.pairs.length + 1) cap1)).setCell ⟨w.heap.size, 0, none⟩ a0).setCell ⟨w.heap.size, 1, none⟩ a1) b ⟨s.begun, s.n, s.m, s.pairs ++ [(p, q)]⟩ v' ∧
      OwnPairs (((w1.setCell ⟨b, 3, none⟩ (.slice (some ⟨gg, 0, none⟩) (s.pairs.length + 1) cap1)).setCell ⟨w.heap.size, 0, none⟩ a0).setCell ⟨w.heap.size, 1, none⟩ a1) B v' (s.pairs ++ [(p, q)]) ∧ ∀ g, v'.ownBlock = some g → (Value.slice va s.pairs.length vc).ownBlock = some g ∨ w.heap.size ≤ g := by
  have hother : ∀ k, k ≠ b → k ≠ w.heap.size → (((w1.setCell ⟨b, 3, none⟩ (.slice (some ⟨gg, 0, none⟩) (s.pairs.length + 1) cap1)).setCell ⟨w.heap.size, 0, none⟩ a0).setCell ⟨w.heap.size, 1, none⟩ a1).heap[k]? = w1.heap[k]? := fun k h1 h2 => by
    rw [heap_setCell_other _ ⟨w.heap.size, 1, none⟩ k a1 h2, heap_setCell_other _ ⟨w.heap.size, 0, none⟩ k a0 h2, heap_setCell_other _ ⟨b, 3, none⟩ k _ h1]
  have hne : ∀ k, k < B → some k ≠ (Value.slice va s.pairs.length vc).ownBlock := fun k hk => (hp.far hk).symm
  have hold : ∀ k, k < W.heap.size → some k ≠ (Value.slice va s.pairs.length vc).ownBlock → w1.heap[k]? = W.heap[k]? := fun k hk h => by
    rw [hg.block k (by show k < (W.alloc x).heap.size; simp; omega) h]
    exact Below.heap_alloc W x k hk
  have hsz := hg.size
  have hsz' : W.heap.size + 1 ≤ w1.heap.size := by
    have : (W.alloc x).heap.size ≤ w1.heap.size := hsz
    simpa using this
  have hgg : gg ≠ b ∧ gg ≠ w.heap.size := by
    rcases hat with h | h
    · cases va with
      | none => simp [Value.ownBlock] at h
      | some y => have := hv y rfl; simp [Value.ownBlock] at h; omega
    · omega
  have hrd : Rdr (w1.setCell ⟨b, 3, none⟩ (.slice (some ⟨gg, 0, none⟩) (s.pairs.length + 1) cap1)) b ⟨s.begun, s.n, s.m, s.pairs ++ [(p, q)]⟩ (.slice (some ⟨gg, 0, none⟩) (s.pairs.length + 1) cap1) := by
    have h1 : Rdr w1 b s (.slice va s.pairs.length vc) := (hold b (by omega) (hne b hb)).trans hr
    exact h1.store _ _
  refine ⟨⟨?_, ?_, ?_, by simp; omega, fun k hk hkb hkv => ?_⟩, .slice (some ⟨gg, 0, none⟩) (s.pairs.length + 1) cap1, ?_, ?_, fun g h => ?_⟩
  · exact (hg.os.trans hbW.os)
  · exact (hg.tape.trans hbW.tape)
  · exact (hg.output.trans hbW.output)
  · rw [hother k hkb (by omega), hold k (by omega) hkv]
    exact hbW.block k (by omega)
  · unfold Rdr
    rw [heap_setCell_other _ ⟨w.heap.size, 1, none⟩ b a1 (by simp; omega), heap_setCell_other _ ⟨w.heap.size, 0, none⟩ b a0 (by simp; omega)]
    exact hrd
  · unfold OwnPairs
    rw [flatP_snoc, List.length_append]
    refine ⟨hown.1, ?_⟩
    rcases hown.2 with ⟨h, _⟩ | ⟨g', c', cur, e, hgB, hh, hrest⟩
    · cases h
    · cases e
      exact .inr ⟨gg, cap1, cur, rfl, hgB, (hother gg hgg.1 hgg.2).trans hh, hrest⟩
  · simp [Value.ownBlock] at h
    subst h
    rcases hat with h | h
    · exact .inl h
    · exact .inr (by omega)

set_option maxRecDepth 100000 in
set_option maxHeartbeats 4000000 in
theorem edge_any (B b : Nat) (s : Pa.St) (v : Value) (T o cap : Nat) (l : List Nu.Tok) (w : World) (hr : Rdr w b s v) (hp : OwnPairs w B v s.pairs) (hl : LineAt w T o l) (hne : l ≠ []) (hlen : l.length ≤ 33554433) (hT : T < B) (hb : b < B) (hB : B ≤ w.heap.size) (hps : s.pairs.length ≤ 33554432) :
    Calls Tryd.prog 76 #[.pointer (some ⟨b, 0, none⟩), .slice (some ⟨T, o, none⟩) l.length cap] w (LinePost B b v (Pa.edge s l) w) := by
  have hlt := hr.lt
  have hpos : 0 < l.length := List.length_pos_iff.2 hne
  have hTl := (hl.fst hne).lt
  obtain ⟨k0, k1, k2, k3⟩ := hl.fst hne
  have ap : (0 : Int) < (l.length : Int) := by omega
  obtain ⟨va, vc, rfl, hvc, hvb⟩ := hp.form
  have c1 := hr.c1
  have c2 := hr.c2
  have c3 := hr.c3
  have f3 := hr.free 3
  have HR := Nu.hid hr
  have HP := Nu.hid hp
  have HVB := Nu.hid hvb
  clear hr hp hvb
  unfold LinePost Pa.edge outVal outX LineOut
  by_cases hm : (s.pairs.length : Int) = s.m
  · have jm : ((s.pairs.length : Int) == s.m) = true := by simp [hm]
    rw [if_pos hm]
    have HM := Nu.hid hm
    clear hm
    go_enter Tryd.func76, Tryd.ntmps76
    go_wp2_with fail
    go_quiet (fail)
    go_wp2_with (go_at_call 77; refine (reject_any 26 (Pa.tk l 0) _).mono ?_; rintro e w1 ⟨rfl, hb1⟩; unfold rejVal; obtain ⟨hc, hf⟩ := bcell hb1; have hz := hb1.size; simp at hz)
    refine bodyPost_ret (v := .agg #[.int .i64 26, .int .i64 (Pa.tk l 0).at']) (by simp [results, Tryd.results76, go_sem, hc]) rfl ⟨rfl, ?_, trivial⟩
    exact Kept.of_below (((((below_drewN ((Below.refl _ _).alloc (Nat.le_refl _) _) nq).trans (hb1.mono (by simp))).setCell (by simp) _).setCell (by simp) _))
  · have jm : ((s.pairs.length : Int) == s.m) = false := by simp [hm]
    rw [if_neg hm]
    have HM := Nu.hid hm
    clear hm
    by_cases h2 : l.length = 2
    · have j0 : ((l.length : Int) != 2) = false := by simp; omega
      have ap1 : (1 : Int) < (l.length : Int) := by omega
      obtain ⟨q0, q1, q2, q3⟩ := hl.snd h2
      rw [if_neg (by omega)]
      by_cases hu : s.n ≤ (Pa.tk l 0).num
      · rw [if_pos hu]
        go_enter Tryd.func76, Tryd.ntmps76
        go_wp2_with fail
        go_quiet (fail)
        go_wp2_with fail
        go_quiet (fail)
        go_wp2_with (go_at_call 77; refine (reject_any 24 (Pa.tk l 0) _).mono ?_; rintro e w1 ⟨rfl, hb1⟩; unfold rejVal; obtain ⟨hc, hf⟩ := bcell hb1; have hz := hb1.size; simp at hz)
        refine bodyPost_ret (v := .agg #[.int .i64 24, .int .i64 (Pa.tk l 0).at']) (by simp [results, Tryd.results76, go_sem, hc]) rfl ⟨rfl, ?_, trivial⟩
        exact Kept.of_below (((((below_drewN ((Below.refl _ _).alloc (Nat.le_refl _) _) _).trans (hb1.mono (by simp))).setCell (by simp) _).setCell (by simp) _))
      · rw [if_neg hu]
        by_cases hv : s.n ≤ (Pa.tk l 1).num
        · rw [if_pos hv]
          go_enter Tryd.func76, Tryd.ntmps76
          go_wp2_with fail
          go_quiet (fail)
          go_wp2_with fail
          go_quiet (fail)
          go_wp2_with fail
          go_quiet (fail)
          go_wp2_with (go_at_call 77; refine (reject_any 24 (Pa.tk l 1) _).mono ?_; rintro e w1 ⟨rfl, hb1⟩; unfold rejVal; obtain ⟨hc, hf⟩ := bcell hb1; have hz := hb1.size; simp at hz)
          refine bodyPost_ret (v := .agg #[.int .i64 24, .int .i64 (Pa.tk l 1).at']) (by simp [results, Tryd.results76, go_sem, hc]) rfl ⟨rfl, ?_, trivial⟩
          exact Kept.of_below (((((below_drewN ((Below.refl _ _).alloc (Nat.le_refl _) _) _).trans (hb1.mono (by simp))).setCell (by simp) _).setCell (by simp) _))
        · rw [if_neg hv]
          obtain ⟨i0, hi, hz0, hz1, hz2⟩ := info_parts Tryd.infoPair
          have ab := HP.out.far hb
          have aT := HP.out.far hT
          go_enter Tryd.func76, Tryd.ntmps76
          go_wp2_with fail
          go_quiet (fail)
          go_wp2_with fail
          go_quiet (fail)
          go_wp2_with fail
          go_quiet (fail)
          go_wp2_with fail
          generalize hW : (((w.alloc (.cells #[.int .i64 0, .int .i64 0] 41)).drewN _).drewN _).drewN nq = W
          have hbW : Below w.heap.size w W := by rw [← hW]; exact below_drewN (below_drewN (below_drewN ((Below.refl _ _).alloc (Nat.le_refl _) _) _) _) _
          have hsW : W.heap.size = w.heap.size + 1 := by rw [← hW]; simp [World.drewN]
          have hres : W.heap[w.heap.size]? = some (.cells #[.int .i64 0, .int .i64 0] 41 (0, 0)) := by rw [← hW]; exact heap_alloc_new w _
          have hrW := HR.out.below hbW hlt
          have hpW := HP.out.below hbW (Nat.le_refl _)
          have e3 := hrW.c3
          have g3 := hrW.free 3
          have m3 : W.cell? ⟨T, o + 3, none⟩ = some (.int .i64 (Pa.tk l 0).num) := (hbW.cell (p := ⟨T, o + 3, none⟩) hTl).trans k3
          have n3 : W.cell? ⟨T, o + 4 + 3, none⟩ = some (.int .i64 (Pa.tk l 1).num) := (hbW.cell (p := ⟨T, o + 4 + 3, none⟩) hTl).trans q3
          have ltb : b < W.heap.size := by omega
          have ltT : T < W.heap.size := by omega
          have ar : some w.heap.size ≠ (Value.slice va s.pairs.length vc).ownBlock := fun h => by
            cases va with
            | none => simp [Value.ownBlock] at h
            | some x => have := (HVB.out x rfl).2; simp [Value.ownBlock] at h; omega
          have HSW := Nu.hid hsW
          clear hsW
          have HRES := Nu.hid hres
          have HRW := Nu.hid hrW
          have HPW := Nu.hid hpW
          have HBW := Nu.hid hbW
          have HL := Nu.hid hl
          clear hres hrW hpW hbW hW k0 k1 k2 k3 q0 q1 q2 q3 c1 c2 c3 f3 hl jm hu hv
          go_region_law
            (refine step_append_lies _ (by rfl) _ _ _ (by rfl) B 34 i0 _ 2 16 Tryd.underlying32 hi hz0 hz1 hz2 rfl (by omega) (.slice va s.pairs.length vc) s.pairs.length (flatP s.pairs) (by rfl) ((HPW.out.alloc _).drew)
                ⟨W.heap.size, 0, none⟩ 1 1 [.int .i64 (Pa.tk l 0).num, .int .i64 (Pa.tk l 1).num] (by rfl) (by rfl) (World.news_of_block (cs := #[.int .i64 (Pa.tk l 0).num, .int .i64 (Pa.tk l 1).num]) (t := 34) (fr := (0, 0)) (heap_alloc_new W _)) (by simp [Value.oneCell'])
                (by omega) (by unfold maxLen; omega) (by omega) (by have := HSW.out; simp; omega) (W.heap.size + 1) (by simp) ?_; intro gg cap1 w1 hown1 hgrow hat hlt1; have x3 := (hgrow.cell_far ⟨b, 3, none⟩ (by simp; omega) (Ne.symm ab)).trans (HRW.out.alloc _).c3; have x4 := (hgrow.frozen_far ⟨b, 3, none⟩ (by simp; omega) (Ne.symm ab)).trans ((HRW.out.alloc _).free 3); have y0 := hgrow.block w.heap.size (by have := HSW.out; simp; omega) ar; have y1 := y0.trans ((Below.heap_alloc W _ _ (lt_of_block HRES.out)).trans HRES.out); clear y0; obtain ⟨z0, z1, z2⟩ := two_cells y1; have Y1 := Nu.hid y1; clear y1)
          all_goals go_wp2
          all_goals
            refine bodyPost_ret (v := .agg #[.int .i64 0, .int .i64 0]) (by simp [results, Tryd.results76, go_sem, *]) rfl ⟨rfl, ?_⟩
            exact edge_end hlt hb HBW.out HSW.out HRW.out HPW.out HVB.out hown1 hgrow hat _ _
    · have j0 : ((l.length : Int) != 2) = true := by simp; omega
      rw [if_pos h2]
      go_enter Tryd.func76, Tryd.ntmps76
      go_wp2_with fail
      go_quiet (fail)
      go_wp2_with (go_at_call 77; refine (reject_any 23 (Pa.tk l 0) _).mono ?_; rintro e w1 ⟨rfl, hb1⟩; unfold rejVal; obtain ⟨hc, hf⟩ := bcell hb1; have hz := hb1.size; simp at hz)
      refine bodyPost_ret (v := .agg #[.int .i64 23, .int .i64 (Pa.tk l 0).at']) (by simp [results, Tryd.results76, go_sem, hc]) rfl ⟨rfl, ?_, trivial⟩
      exact Kept.of_below (((((below_drewN ((Below.refl _ _).alloc (Nat.le_refl _) _) nq).trans (hb1.mono (by simp))).setCell (by simp) _).setCell (by simp) _))

end Go.Proofs.YtmgjfakdjponoabDoor
