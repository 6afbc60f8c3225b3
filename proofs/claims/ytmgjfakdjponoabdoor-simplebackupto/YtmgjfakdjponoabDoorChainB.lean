import Derived.Test.YtmgjfakdjponoabDoorPa
import Derived.Test.YtmgjfakdjponoabDoorChainA
import Derived.Deep.RegionHeld3
import Derived.Deep.AppendLies
import Derived.BigRegion
import Derived.Deep.RegionLaw
import Derived.WalkMore
import Derived.Test.YtmgjfakdjponoabDoorAddr0
/-
  The reader in memory, and what its small callees answer: reject, and what is said at the end.
-/
namespace Go.Proofs.YtmgjfakdjponoabDoor
open Go.RowKit

/-- Block b is a reader in state s whose list of pairs is v. -/
def Rdr (w : World) (b : Nat) (s : Pa.St) (v : Value) : Prop :=
  w.heap[b]? = some (.cells #[.bool s.begun, .int .i64 s.n, .int .i64 s.m, v] 110 (0, 0))

section
variable {w w' : World} {b : Nat} {s : Pa.St} {v : Value}
theorem Rdr.lt (h : Rdr w b s v) : b < w.heap.size := lt_of_block h
theorem Rdr.c0 (h : Rdr w b s v) : w.cell? ⟨b, 0, none⟩ = some (.bool s.begun) := by unfold Rdr at h; simp [World.cell?, h]
theorem Rdr.c1 (h : Rdr w b s v) : w.cell? ⟨b, 1, none⟩ = some (.int .i64 s.n) := by unfold Rdr at h; simp [World.cell?, h]
theorem Rdr.c2 (h : Rdr w b s v) : w.cell? ⟨b, 2, none⟩ = some (.int .i64 s.m) := by unfold Rdr at h; simp [World.cell?, h]
theorem Rdr.c3 (h : Rdr w b s v) : w.cell? ⟨b, 3, none⟩ = some v := by unfold Rdr at h; simp [World.cell?, h]
theorem Rdr.free (h : Rdr w b s v) (i : Nat) : w.frozen? ⟨b, i, none⟩ = false := by unfold Rdr at h; simp [World.frozen?, h]
theorem Rdr.below {B : Nat} (h : Rdr w b s v) (hb : Below B w w') (hlt : b < B) : Rdr w' b s v := (hb.block b hlt).trans h
end

def tokVal (t : Nu.Tok) : Value := .agg #[.int .i64 t.kind, .int .i64 t.at', .int .i64 t.fin, .int .i64 t.num]
def rejVal (x : Int × Int) : Value := .agg #[.int .i64 x.1, .int .i64 x.2]

set_option maxHeartbeats 400000 in
theorem reject_any (c : Int) (t : Nu.Tok) (w : World) :
    Calls Tryd.prog 77 #[.int .i64 c, tokVal t] w fun e w' => e = .returned (rejVal (c, t.at')) ∧ Below w.heap.size w w' := by
  unfold tokVal rejVal
  go_enter Tryd.func77, Tryd.ntmps77
  go_wp2
  exact bodyPost_ret (v := .agg #[.int .i64 c, .int .i64 t.at']) (by simp [results, Tryd.results77, go_sem]) rfl ⟨rfl, ((Below.refl _ _).alloc (Nat.le_refl _) _).alloc (by simp) _⟩

theorem bcell {W w1 : World} (hb : Below W.heap.size W w1) : (∀ b o, b < W.heap.size → w1.cell? ⟨b, o, none⟩ = W.cell? ⟨b, o, none⟩) ∧ (∀ b o, b < W.heap.size → w1.frozen? ⟨b, o, none⟩ = W.frozen? ⟨b, o, none⟩) :=
  ⟨fun b o h => hb.cell (p := ⟨b, o, none⟩) h, fun b o h => hb.frozen (p := ⟨b, o, none⟩) h⟩

/-- What a fault, or none, is as a value. -/
def outX (r : Except (Int × Int) Pa.St) : Int × Int := match r with
  | .error x => x
  | .ok _ => (0, 0)
def outVal (r : Except (Int × Int) Pa.St) : Value := rejVal (outX r)

set_option maxHeartbeats 400000 in
theorem end_any (b : Nat) (s : Pa.St) (ao : Option Addr) (cap : Nat) (t : Nu.Tok) (w : World) (hr : Rdr w b s (.slice ao s.pairs.length cap)) :
    Calls Tryd.prog 63 #[.pointer (some ⟨b, 0, none⟩), tokVal t] w fun e w' => e = .returned (outVal (Pa.fin s t.at')) ∧ Below w.heap.size w w' := by
  have hlt := hr.lt
  have c0 := hr.c0
  have c2 := hr.c2
  have c3 := hr.c3
  clear hr
  obtain ⟨begun, n, m, ps⟩ := s
  dsimp only at c0 c2 c3
  unfold Pa.fin outVal outX
  dsimp only
  cases begun
  · rw [if_pos rfl]
    unfold tokVal
    go_enter Tryd.func63, Tryd.ntmps63
    go_wp2_with (go_at_call 77; refine (reject_any 20 t _).mono ?_; refine Hid.out ?_)
    refine Nu.hid ?_
    rintro e w1 ⟨rfl, hb⟩
    unfold rejVal
    obtain ⟨hc, hf⟩ := bcell hb
    have hz := hb.size
    simp at hz
    go_wp2
    refine bodyPost_ret (v := .agg #[.int .i64 20, .int .i64 t.at']) (by simp [results, Tryd.results63, go_sem, hc]) rfl ⟨rfl, ?_⟩
    exact ((((((Below.refl _ _).alloc (Nat.le_refl _) _).alloc (by simp) _).trans (hb.mono (by simp; omega))).setCell (by simp) _).setCell (by simp) _)
  · rw [if_neg (by simp)]
    by_cases hl : (ps.length : Int) < m
    · rw [if_pos hl]
      unfold tokVal
      go_enter Tryd.func63, Tryd.ntmps63
      go_wp2_with fail
      go_quiet (fail)
      go_wp2_with (go_at_call 77; refine (reject_any 25 t _).mono ?_; refine Hid.out ?_)
      refine Nu.hid ?_
      rintro e w1 ⟨rfl, hb⟩
      unfold rejVal
      obtain ⟨hc, hf⟩ := bcell hb
      have hz := hb.size
      simp at hz
      go_wp2
      refine bodyPost_ret (v := .agg #[.int .i64 25, .int .i64 t.at']) (by simp [results, Tryd.results63, go_sem, hc]) rfl ⟨rfl, ?_⟩
      exact (((below_drewN (((Below.refl _ _).alloc (Nat.le_refl _) _).alloc (by simp) _) nq).trans (hb.mono (by simp; omega))).setCell (by simp) _).setCell (by simp) _
    · rw [if_neg hl]
      unfold tokVal
      go_enter Tryd.func63, Tryd.ntmps63
      go_wp2_with fail
      go_quiet (fail)
      go_wp2
      refine bodyPost_ret (v := .agg #[.int .i64 0, .int .i64 0]) (by simp [results, Tryd.results63, go_sem]) rfl ⟨rfl, ?_⟩
      exact ((below_drewN (((Below.refl _ _).alloc (Nat.le_refl _) _).alloc (by simp) _) nq).setCell (by simp) _).setCell (by simp) _

end Go.Proofs.YtmgjfakdjponoabDoor

/-
  What the reader does with the header's line.
-/
namespace Go.Proofs.YtmgjfakdjponoabDoor
open Go.RowKit

/-- The cells of one token from place o of block T on. -/
def TokAt (w : World) (T o : Nat) (t : Nu.Tok) : Prop :=
  w.cell? ⟨T, o, none⟩ = some (.int .i64 t.kind) ∧ w.cell? ⟨T, o + 1, none⟩ = some (.int .i64 t.at') ∧ w.cell? ⟨T, o + 2, none⟩ = some (.int .i64 t.fin) ∧ w.cell? ⟨T, o + 3, none⟩ = some (.int .i64 t.num)

/-- The tokens l lie from place o of block T on. -/
def LineAt (w : World) (T o : Nat) (l : List Nu.Tok) : Prop := ∀ j t, l[j]? = some t → TokAt w T (o + j * 4) t

theorem TokAt.lt {w : World} {T o : Nat} {t : Nu.Tok} (h : TokAt w T o t) : T < w.heap.size := block_lt_of_cell h.1
theorem TokAt.below {w w' : World} {B T o : Nat} {t : Nu.Tok} (h : TokAt w T o t) (hb : Below B w w') (hT : T < B) : TokAt w' T o t :=
  ⟨(hb.cell (p := ⟨T, o, none⟩) hT).trans h.1, (hb.cell (p := ⟨T, o + 1, none⟩) hT).trans h.2.1, (hb.cell (p := ⟨T, o + 2, none⟩) hT).trans h.2.2.1, (hb.cell (p := ⟨T, o + 3, none⟩) hT).trans h.2.2.2⟩
theorem LineAt.below {w w' : World} {B T o : Nat} {l : List Nu.Tok} (h : LineAt w T o l) (hb : Below B w w') (hT : T < B) : LineAt w' T o l :=
  fun j t hj => (h j t hj).below hb hT
theorem LineAt.fst {w : World} {T o : Nat} {l : List Nu.Tok} (h : LineAt w T o l) (hl : l ≠ []) : TokAt w T o (Pa.tk l 0) := by
  cases l with
  | nil => exact absurd rfl hl
  | cons t l => simpa [Pa.tk] using h 0 t rfl
theorem LineAt.snd {w : World} {T o : Nat} {l : List Nu.Tok} (h : LineAt w T o l) (hl : l.length = 2) : TokAt w T (o + 4) (Pa.tk l 1) := by
  cases l with
  | nil => simp at hl
  | cons t l => cases l with
    | nil => simp at hl
    | cons u l => simpa [Pa.tk] using h 1 u rfl

theorem grownBy_refl (w : World) (r : Option Nat) : w.grownBy w r := ⟨rfl, rfl, rfl, Nat.le_refl _, fun _ _ _ => rfl⟩

theorem Rdr.put {w : World} {b : Nat} {s : Pa.St} {v : Value} (h : Rdr w b s v) (x : Bool) (n m : Int) (ps : List (Int × Int)) :
    Rdr (((w.setCell ⟨b, 0, none⟩ (.bool x)).setCell ⟨b, 1, none⟩ (.int .i64 n)).setCell ⟨b, 2, none⟩ (.int .i64 m)) b ⟨x, n, m, ps⟩ v := by
  unfold Rdr at h ⊢
  have h1 := heap_setCell_same w b 0 _ _ (.bool x) h
  have h2 := heap_setCell_same _ b 1 _ _ (.int .i64 n) h1
  have h3 := heap_setCell_same _ b 2 _ _ (.int .i64 m) h2
  simpa using h3
theorem Rdr.alloc {w : World} {b : Nat} {s : Pa.St} {v : Value} (h : Rdr w b s v) (o : Obj) : Rdr (w.alloc o) b s v := (Below.heap_alloc w o b h.lt).trans h

theorem below_part {w w' : World} {b : Option Nat} (h : Below w.heap.size w w') : w.grownBy w' b ∧ Below w.heap.size w w' := ⟨⟨h.os, h.tape, h.output, h.size, fun k hk _ => h.block k hk⟩, h⟩

set_option maxHeartbeats 2000000 in
theorem header_any (b : Nat) (s : Pa.St) (v : Value) (T o cap : Nat) (l : List Nu.Tok) (w : World) (hr : Rdr w b s v) (hl : LineAt w T o l) (hne : l ≠ []) (hlen : l.length ≤ 33554433) (hTb : T ≠ b) :
    Calls Tryd.prog 75 #[.pointer (some ⟨b, 0, none⟩), .slice (some ⟨T, o, none⟩) l.length cap] w fun e w' =>
      e = .returned (outVal (Pa.header s l)) ∧ w.grownBy w' (some b) ∧ match Pa.header s l with
        | .error _ => Below w.heap.size w w'
        | .ok s' => Rdr w' b s' v := by
  have hlt := hr.lt
  have hpos : 0 < l.length := List.length_pos_iff.2 hne
  have hTl := (hl.fst hne).lt
  obtain ⟨k0, k1, k2, k3⟩ := hl.fst hne
  have ap : (0 : Int) < (l.length : Int) := by omega
  unfold Pa.header outVal outX
  by_cases h2 : l.length = 2
  · have j0 : ((l.length : Int) != 2) = false := by simp; omega
    have ap1 : (1 : Int) < (l.length : Int) := by omega
    obtain ⟨q0, q1, q2, q3⟩ := hl.snd h2
    rw [if_neg (by omega)]
    by_cases hn : 1048576 < (Pa.tk l 0).num
    · rw [if_pos hn]
      go_enter Tryd.func75, Tryd.ntmps75
      go_wp2_with (go_at_call 77; refine (reject_any 21 (Pa.tk l 0) _).mono ?_; rintro e w1 ⟨rfl, hb⟩; unfold rejVal; obtain ⟨hc, hf⟩ := bcell hb; have hz := hb.size; simp at hz)
      refine bodyPost_ret (v := .agg #[.int .i64 21, .int .i64 (Pa.tk l 0).at']) (by simp [results, Tryd.results75, go_sem, hc]) rfl ⟨rfl, ?_⟩
      exact below_part ((((((Below.refl _ _).alloc (Nat.le_refl _) _)).trans (hb.mono (by simp))).setCell (by simp) _).setCell (by simp) _)
    · rw [if_neg hn]
      by_cases hm : 2097152 < (Pa.tk l 1).num
      · rw [if_pos hm]
        go_enter Tryd.func75, Tryd.ntmps75
        go_wp2_with (go_at_call 77; refine (reject_any 22 (Pa.tk l 1) _).mono ?_; rintro e w1 ⟨rfl, hb⟩; unfold rejVal; obtain ⟨hc, hf⟩ := bcell hb; have hz := hb.size; simp at hz)
        refine bodyPost_ret (v := .agg #[.int .i64 22, .int .i64 (Pa.tk l 1).at']) (by simp [results, Tryd.results75, go_sem, hc]) rfl ⟨rfl, ?_⟩
        exact below_part ((((((Below.refl _ _).alloc (Nat.le_refl _) _)).trans (hb.mono (by simp))).setCell (by simp) _).setCell (by simp) _)
      · rw [if_neg hm]
        have c0 := hr.c0
        have c1 := hr.c1
        have c2 := hr.c2
        have f0 := hr.free 0
        have f1 := hr.free 1
        have f2 := hr.free 2
        have hTb' : b ≠ T := fun h => hTb h.symm
        go_enter Tryd.func75, Tryd.ntmps75
        go_wp2_with fail
        go_region
        go_wp2
        refine bodyPost_ret (v := .agg #[.int .i64 0, .int .i64 0]) (by simp [results, Tryd.results75, go_sem]) rfl ⟨rfl, ?_, ?_⟩
        · exact grownBy_drew (grownBy_alloc' (grownBy_setCell (grownBy_setCell (grownBy_setCell (grownBy_refl _ _) 0 _) 1 _) 2 _) _)
        · exact (hr.put true _ _ s.pairs).alloc _
  · have j0 : ((l.length : Int) != 2) = true := by simp; omega
    rw [if_pos h2]
    go_enter Tryd.func75, Tryd.ntmps75
    go_wp2_with (go_at_call 77; refine (reject_any 20 (Pa.tk l 0) _).mono ?_; rintro e w1 ⟨rfl, hb⟩; unfold rejVal; obtain ⟨hc, hf⟩ := bcell hb; have hz := hb.size; simp at hz)
    refine bodyPost_ret (v := .agg #[.int .i64 20, .int .i64 (Pa.tk l 0).at']) (by simp [results, Tryd.results75, go_sem, hc]) rfl ⟨rfl, ?_⟩
    exact below_part ((((((Below.refl _ _).alloc (Nat.le_refl _) _)).trans (hb.mono (by simp))).setCell (by simp) _).setCell (by simp) _)

end Go.Proofs.YtmgjfakdjponoabDoor

/-
  What the reader does with an edge's line.
-/
namespace Go.Proofs.YtmgjfakdjponoabDoor
open Go.RowKit

theorem Tryd.infoPair : (Tryd.prog.info? 34).map (fun i => (i.zero, i.size, i.bytes)) = some (some (.agg #[.int .i64 0, .int .i64 0]), 2, 16) := by kernel_rfl

def flatP (ps : List (Int × Int)) : List Value := ps.flatMap fun p => [.int .i64 p.1, .int .i64 p.2]

theorem flatP_snoc (ps : List (Int × Int)) (p : Int × Int) : flatP (ps ++ [p]) = flatP ps ++ [.int .i64 p.1, .int .i64 p.2] := by simp [flatP]

/-- v is a slice of the pairs ps, laid since block B. -/
def OwnPairs (w : World) (B : Nat) (v : Value) (ps : List (Int × Int)) : Prop := w.ownsRow B 34 2 v ps.length (flatP ps)

/-- Nothing that was there has turned, but for block b and the block of the list v. -/
structure Kept (b : Nat) (v : Value) (w w' : World) : Prop where
  os : w'.os = w.os
  tape : w'.tape = w.tape
  output : w'.output = w.output
  size : w.heap.size ≤ w'.heap.size
  block : ∀ k, k < w.heap.size → k ≠ b → some k ≠ v.ownBlock → w'.heap[k]? = w.heap[k]?

theorem Kept.of_below {b : Nat} {v : Value} {w w' : World} (h : Below w.heap.size w w') : Kept b v w w' := ⟨h.os, h.tape, h.output, h.size, fun k hk _ _ => h.block k hk⟩
theorem Kept.of_grown {b : Nat} {v : Value} {w w' : World} (h : w.grownBy w' (some b)) : Kept b v w w' := ⟨h.os, h.tape, h.output, h.size, fun k hk hne _ => h.block k hk (by simpa using hne)⟩

/-- What a line leaves in the reader; its list lies where the old one lay, or in new memory. -/
def LineOut (B b : Nat) (v : Value) (r : Except (Int × Int) Pa.St) (w w' : World) : Prop := match r with
  | .error _ => True
  | .ok s' => ∃ v', Rdr w' b s' v' ∧ OwnPairs w' B v' s'.pairs ∧ ∀ g, v'.ownBlock = some g → v.ownBlock = some g ∨ w.heap.size ≤ g

def LinePost (B b : Nat) (v : Value) (r : Except (Int × Int) Pa.St) (w : World) (e : Ending) (w' : World) : Prop :=
  e = .returned (outVal r) ∧ Kept b v w w' ∧ LineOut B b v r w w'

theorem OwnPairs.form {w : World} {B : Nat} {v : Value} {ps : List (Int × Int)} (h : OwnPairs w B v ps) : ∃ ao cap, v = .slice ao ps.length cap ∧ ps.length ≤ cap ∧ (∀ x, ao = some x → B ≤ x.block ∧ x.block < w.heap.size) := by
  rcases h.2 with ⟨rfl, h0⟩ | ⟨g, cap, cur, rfl, hg, hh, hc, _⟩
  · exact ⟨none, 0, by rw [h0], by omega, fun x h => by cases h⟩
  · exact ⟨_, cap, rfl, hc, fun x h => by cases h; exact ⟨hg, lt_of_block hh⟩⟩
theorem OwnPairs.far {w : World} {B b : Nat} {v : Value} {ps : List (Int × Int)} (h : OwnPairs w B v ps) (hb : b < B) : v.ownBlock ≠ some b := by
  obtain ⟨ao, cap, rfl, _, hx⟩ := h.form
  cases ao with
  | none => simp [Value.ownBlock]
  | some x => have := hx x rfl; simp [Value.ownBlock]; omega
theorem OwnPairs.grown {w w' : World} {B b : Nat} {v : Value} {ps : List (Int × Int)} (h : OwnPairs w B v ps) (hg : w.grownBy w' (some b)) (hb : b < B) : OwnPairs w' B v ps := by
  refine ⟨h.1, ?_⟩
  rcases h.2 with h | ⟨g, cap, cur, e, hgB, hh, hr⟩
  · exact .inl h
  · exact .inr ⟨g, cap, cur, e, hgB, (hg.block g (lt_of_block hh) (by simp; omega)).trans hh, hr⟩
theorem OwnPairs.below {w w' : World} {B A : Nat} {v : Value} {ps : List (Int × Int)} (h : OwnPairs w B v ps) (hb : Below A w w') (hA : w.heap.size ≤ A) : OwnPairs w' B v ps := by
  refine ⟨h.1, ?_⟩
  rcases h.2 with h | ⟨g, cap, cur, e, hgB, hh, hr⟩
  · exact .inl h
  · exact .inr ⟨g, cap, cur, e, hgB, (hb.block g (by have := lt_of_block hh; omega)).trans hh, hr⟩

theorem two_cells {w : World} {r : Nat} {a b : Value} {t : TypeId} (h : w.heap[r]? = some (.cells #[a, b] t (0, 0))) : w.cell? ⟨r, 0, none⟩ = some a ∧ w.cell? ⟨r, 1, none⟩ = some b ∧ ∀ i, w.frozen? ⟨r, i, none⟩ = false := by
  refine ⟨?_, ?_, fun i => ?_⟩ <;> simp [World.cell?, World.frozen?, h]

/-- The list stored anew. -/
theorem Rdr.store {w : World} {b : Nat} {s : Pa.St} {v : Value} (h : Rdr w b s v) (v' : Value) (ps : List (Int × Int)) : Rdr (w.setCell ⟨b, 3, none⟩ v') b ⟨s.begun, s.n, s.m, ps⟩ v' := by
  unfold Rdr at h ⊢
  have h1 := heap_setCell_same w b 3 _ _ v' h
  simpa using h1

/-- What stands behind an edge's line that is right. -/
theorem edge_end {B b : Nat} {s : Pa.St} {va : Option Addr} {vc gg cap1 : Nat} {p q : Int} {w W w1 : World} {x : Obj} (hlt : b < w.heap.size) (hb : b < B) (hbW : Below w.heap.size w W) (hsW : W.heap.size = w.heap.size + 1)
    (hr : Rdr W b s (.slice va s.pairs.length vc)) (hp : OwnPairs W B (.slice va s.pairs.length vc) s.pairs) (hv : ∀ x, va = some x → B ≤ x.block ∧ x.block < w.heap.size)
    (hown : w1.ownsRow B 34 2 (.slice (some ⟨gg, 0, none⟩) (s.pairs.length + 1) cap1) (s.pairs.length + 1) (flatP s.pairs ++ [.int .i64 p, .int .i64 q])) (hg : (W.alloc x).drew.grownBy w1 (Value.slice va s.pairs.length vc).ownBlock)
    (hat : (Value.slice va s.pairs.length vc).ownBlock = some gg ∨ gg = W.heap.size + 1) (a0 a1 : Value) :
    Kept b (.slice va s.pairs.length vc) w (((w1.setCell ⟨b, 3, none⟩ (.slice (some ⟨gg, 0, none⟩) (s.pairs.length + 1) cap1)).setCell ⟨w.heap.size, 0, none⟩ a0).setCell ⟨w.heap.size, 1, none⟩ a1) ∧
    ∃ v', Rdr (((w1.setCell ⟨b, 3, none⟩ (.slice (some ⟨gg, 0, none⟩) (s.pairs.length + 1) cap1)).setCell ⟨w.heap.size, 0, none⟩ a0).setCell ⟨w.heap.size, 1, none⟩ a1) b ⟨s.begun, s.n, s.m, s.pairs ++ [(p, q)]⟩ v' ∧
      OwnPairs (((w1.setCell ⟨b, 3, none⟩ (.slice (some ⟨gg, 0, none⟩) (s.pairs.length + 1) cap1)).setCell ⟨w.heap.size, 0, none⟩ a0).setCell ⟨w.heap.size, 1, none⟩ a1) B v' (s.pairs ++ [(p, q)]) ∧ ∀ g, v'.ownBlock = some g → (Value.slice va s.pairs.length vc).ownBlock = some g ∨ w.heap.size ≤ g := by
  have hother : ∀ k, k ≠ b → k ≠ w.heap.size → (((w1.setCell ⟨b, 3, none⟩ (.slice (some ⟨gg, 0, none⟩) (s.pairs.length + 1) cap1)).setCell ⟨w.heap.size, 0, none⟩ a0).setCell ⟨w.heap.size, 1, none⟩ a1).heap[k]? = w1.heap[k]? := fun k h1 h2 => by
    rw [heap_setCell_other _ ⟨w.heap.size, 1, none⟩ k a1 h2, heap_setCell_other _ ⟨w.heap.size, 0, none⟩ k a0 h2, heap_setCell_other _ ⟨b, 3, none⟩ k _ h1]
  have hne : ∀ k, k < B → some k ≠ (Value.slice va s.pairs.length vc).ownBlock := fun k hk => (hp.far hk).symm
  have hold : ∀ k, k < W.heap.size → some k ≠ (Value.slice va s.pairs.length vc).ownBlock → w1.heap[k]? = W.heap[k]? := fun k hk h => by
    rw [hg.block k (by show k < (W.alloc x).heap.size; simp; omega) h]
    exact Below.heap_alloc W x k hk
  have hsz := hg.size
  have hsz' : W.heap.size + 1 ≤ w1.heap.size := by
    have : (W.alloc x).heap.size ≤ w1.heap.size := hsz
    simpa using this
  have hgg : gg ≠ b ∧ gg ≠ w.heap.size := by
    rcases hat with h | h
    · cases va with
      | none => simp [Value.ownBlock] at h
      | some y => have := hv y rfl; simp [Value.ownBlock] at h; omega
    · omega
  have hrd : Rdr (w1.setCell ⟨b, 3, none⟩ (.slice (some ⟨gg, 0, none⟩) (s.pairs.length + 1) cap1)) b ⟨s.begun, s.n, s.m, s.pairs ++ [(p, q)]⟩ (.slice (some ⟨gg, 0, none⟩) (s.pairs.length + 1) cap1) := by
    have h1 : Rdr w1 b s (.slice va s.pairs.length vc) := (hold b (by omega) (hne b hb)).trans hr
    exact h1.store _ _
  refine ⟨⟨?_, ?_, ?_, by simp; omega, fun k hk hkb hkv => ?_⟩, .slice (some ⟨gg, 0, none⟩) (s.pairs.length + 1) cap1, ?_, ?_, fun g h => ?_⟩
  · exact (hg.os.trans hbW.os)
  · exact (hg.tape.trans hbW.tape)
  · exact (hg.output.trans hbW.output)
  · rw [hother k hkb (by omega), hold k (by omega) hkv]
    exact hbW.block k (by omega)
  · unfold Rdr
    rw [heap_setCell_other _ ⟨w.heap.size, 1, none⟩ b a1 (by simp; omega), heap_setCell_other _ ⟨w.heap.size, 0, none⟩ b a0 (by simp; omega)]
    exact hrd
  · unfold OwnPairs
    rw [flatP_snoc, List.length_append]
    refine ⟨hown.1, ?_⟩
    rcases hown.2 with ⟨h, _⟩ | ⟨g', c', cur, e, hgB, hh, hrest⟩
    · cases h
    · cases e
      exact .inr ⟨gg, cap1, cur, rfl, hgB, (hother gg hgg.1 hgg.2).trans hh, hrest⟩
  · simp [Value.ownBlock] at h
    subst h
    rcases hat with h | h
    · exact .inl h
    · exact .inr (by omega)

set_option maxRecDepth 100000 in
set_option maxHeartbeats 4000000 in
theorem edge_any (B b : Nat) (s : Pa.St) (v : Value) (T o cap : Nat) (l : List Nu.Tok) (w : World) (hr : Rdr w b s v) (hp : OwnPairs w B v s.pairs) (hl : LineAt w T o l) (hne : l ≠ []) (hlen : l.length ≤ 33554433) (hT : T < B) (hb : b < B) (hB : B ≤ w.heap.size) (hps : s.pairs.length ≤ 33554432) :
    Calls Tryd.prog 76 #[.pointer (some ⟨b, 0, none⟩), .slice (some ⟨T, o, none⟩) l.length cap] w (LinePost B b v (Pa.edge s l) w) := by
  have hlt := hr.lt
  have hpos : 0 < l.length := List.length_pos_iff.2 hne
  have hTl := (hl.fst hne).lt
  obtain ⟨k0, k1, k2, k3⟩ := hl.fst hne
  have ap : (0 : Int) < (l.length : Int) := by omega
  obtain ⟨va, vc, rfl, hvc, hvb⟩ := hp.form
  have c1 := hr.c1
  have c2 := hr.c2
  have c3 := hr.c3
  have f3 := hr.free 3
  have HR := Nu.hid hr
  have HP := Nu.hid hp
  have HVB := Nu.hid hvb
  clear hr hp hvb
  unfold LinePost Pa.edge outVal outX LineOut
  by_cases hm : (s.pairs.length : Int) = s.m
  · have jm : ((s.pairs.length : Int) == s.m) = true := by simp [hm]
    rw [if_pos hm]
    have HM := Nu.hid hm
    clear hm
    go_enter Tryd.func76, Tryd.ntmps76
    go_wp2_with fail
    go_quiet (fail)
    go_wp2_with (go_at_call 77; refine (reject_any 26 (Pa.tk l 0) _).mono ?_; rintro e w1 ⟨rfl, hb1⟩; unfold rejVal; obtain ⟨hc, hf⟩ := bcell hb1; have hz := hb1.size; simp at hz)
    refine bodyPost_ret (v := .agg #[.int .i64 26, .int .i64 (Pa.tk l 0).at']) (by simp [results, Tryd.results76, go_sem, hc]) rfl ⟨rfl, ?_, trivial⟩
    exact Kept.of_below (((((below_drewN ((Below.refl _ _).alloc (Nat.le_refl _) _) nq).trans (hb1.mono (by simp))).setCell (by simp) _).setCell (by simp) _))
  · have jm : ((s.pairs.length : Int) == s.m) = false := by simp [hm]
    rw [if_neg hm]
    have HM := Nu.hid hm
    clear hm
    by_cases h2 : l.length = 2
    · have j0 : ((l.length : Int) != 2) = false := by simp; omega
      have ap1 : (1 : Int) < (l.length : Int) := by omega
      obtain ⟨q0, q1, q2, q3⟩ := hl.snd h2
      rw [if_neg (by omega)]
      by_cases hu : s.n ≤ (Pa.tk l 0).num
      · rw [if_pos hu]
        go_enter Tryd.func76, Tryd.ntmps76
        go_wp2_with fail
        go_quiet (fail)
        go_wp2_with fail
        go_quiet (fail)
        go_wp2_with (go_at_call 77; refine (reject_any 24 (Pa.tk l 0) _).mono ?_; rintro e w1 ⟨rfl, hb1⟩; unfold rejVal; obtain ⟨hc, hf⟩ := bcell hb1; have hz := hb1.size; simp at hz)
        refine bodyPost_ret (v := .agg #[.int .i64 24, .int .i64 (Pa.tk l 0).at']) (by simp [results, Tryd.results76, go_sem, hc]) rfl ⟨rfl, ?_, trivial⟩
        exact Kept.of_below (((((below_drewN ((Below.refl _ _).alloc (Nat.le_refl _) _) _).trans (hb1.mono (by simp))).setCell (by simp) _).setCell (by simp) _))
      · rw [if_neg hu]
        by_cases hv : s.n ≤ (Pa.tk l 1).num
        · rw [if_pos hv]
          go_enter Tryd.func76, Tryd.ntmps76
          go_wp2_with fail
          go_quiet (fail)
          go_wp2_with fail
          go_quiet (fail)
          go_wp2_with fail
          go_quiet (fail)
          go_wp2_with (go_at_call 77; refine (reject_any 24 (Pa.tk l 1) _).mono ?_; rintro e w1 ⟨rfl, hb1⟩; unfold rejVal; obtain ⟨hc, hf⟩ := bcell hb1; have hz := hb1.size; simp at hz)
          refine bodyPost_ret (v := .agg #[.int .i64 24, .int .i64 (Pa.tk l 1).at']) (by simp [results, Tryd.results76, go_sem, hc]) rfl ⟨rfl, ?_, trivial⟩
          exact Kept.of_below (((((below_drewN ((Below.refl _ _).alloc (Nat.le_refl _) _) _).trans (hb1.mono (by simp))).setCell (by simp) _).setCell (by simp) _))
        · rw [if_neg hv]
          obtain ⟨i0, hi, hz0, hz1, hz2⟩ := info_parts Tryd.infoPair
          have ab := HP.out.far hb
          have aT := HP.out.far hT
          go_enter Tryd.func76, Tryd.ntmps76
          go_wp2_with fail
          go_quiet (fail)
          go_wp2_with fail
          go_quiet (fail)
          go_wp2_with fail
          go_quiet (fail)
          go_wp2_with fail
          generalize hW : (((w.alloc (.cells #[.int .i64 0, .int .i64 0] 41)).drewN _).drewN _).drewN nq = W
          have hbW : Below w.heap.size w W := by rw [← hW]; exact below_drewN (below_drewN (below_drewN ((Below.refl _ _).alloc (Nat.le_refl _) _) _) _) _
          have hsW : W.heap.size = w.heap.size + 1 := by rw [← hW]; simp [World.drewN]
          have hres : W.heap[w.heap.size]? = some (.cells #[.int .i64 0, .int .i64 0] 41 (0, 0)) := by rw [← hW]; exact heap_alloc_new w _
          have hrW := HR.out.below hbW hlt
          have hpW := HP.out.below hbW (Nat.le_refl _)
          have e3 := hrW.c3
          have g3 := hrW.free 3
          have m3 : W.cell? ⟨T, o + 3, none⟩ = some (.int .i64 (Pa.tk l 0).num) := (hbW.cell (p := ⟨T, o + 3, none⟩) hTl).trans k3
          have n3 : W.cell? ⟨T, o + 4 + 3, none⟩ = some (.int .i64 (Pa.tk l 1).num) := (hbW.cell (p := ⟨T, o + 4 + 3, none⟩) hTl).trans q3
          have ltb : b < W.heap.size := by omega
          have ltT : T < W.heap.size := by omega
          have ar : some w.heap.size ≠ (Value.slice va s.pairs.length vc).ownBlock := fun h => by
            cases va with
            | none => simp [Value.ownBlock] at h
            | some x => have := (HVB.out x rfl).2; simp [Value.ownBlock] at h; omega
          have HSW := Nu.hid hsW
          clear hsW
          have HRES := Nu.hid hres
          have HRW := Nu.hid hrW
          have HPW := Nu.hid hpW
          have HBW := Nu.hid hbW
          have HL := Nu.hid hl
          clear hres hrW hpW hbW hW k0 k1 k2 k3 q0 q1 q2 q3 c1 c2 c3 f3 hl jm hu hv
          go_region_law
            (refine step_append_lies _ (by rfl) _ _ _ (by rfl) B 34 i0 _ 2 16 Tryd.underlying32 hi hz0 hz1 hz2 rfl (by omega) (.slice va s.pairs.length vc) s.pairs.length (flatP s.pairs) (by rfl) ((HPW.out.alloc _).drew)
                ⟨W.heap.size, 0, none⟩ 1 1 [.int .i64 (Pa.tk l 0).num, .int .i64 (Pa.tk l 1).num] (by rfl) (by rfl) (World.news_of_block (cs := #[.int .i64 (Pa.tk l 0).num, .int .i64 (Pa.tk l 1).num]) (t := 34) (fr := (0, 0)) (heap_alloc_new W _)) (by simp [Value.oneCell'])
                (by omega) (by unfold maxLen; omega) (by omega) (by have := HSW.out; simp; omega) (W.heap.size + 1) (by simp) ?_; intro gg cap1 w1 hown1 hgrow hat hlt1; have x3 := (hgrow.cell_far ⟨b, 3, none⟩ (by simp; omega) (Ne.symm ab)).trans (HRW.out.alloc _).c3; have x4 := (hgrow.frozen_far ⟨b, 3, none⟩ (by simp; omega) (Ne.symm ab)).trans ((HRW.out.alloc _).free 3); have y0 := hgrow.block w.heap.size (by have := HSW.out; simp; omega) ar; have y1 := y0.trans ((Below.heap_alloc W _ _ (lt_of_block HRES.out)).trans HRES.out); clear y0; obtain ⟨z0, z1, z2⟩ := two_cells y1; have Y1 := Nu.hid y1; clear y1)
          all_goals go_wp2
          all_goals
            refine bodyPost_ret (v := .agg #[.int .i64 0, .int .i64 0]) (by simp [results, Tryd.results76, go_sem, *]) rfl ⟨rfl, ?_⟩
            exact edge_end hlt hb HBW.out HSW.out HRW.out HPW.out HVB.out hown1 hgrow hat _ _
    · have j0 : ((l.length : Int) != 2) = true := by simp; omega
      rw [if_pos h2]
      go_enter Tryd.func76, Tryd.ntmps76
      go_wp2_with fail
      go_quiet (fail)
      go_wp2_with (go_at_call 77; refine (reject_any 23 (Pa.tk l 0) _).mono ?_; rintro e w1 ⟨rfl, hb1⟩; unfold rejVal; obtain ⟨hc, hf⟩ := bcell hb1; have hz := hb1.size; simp at hz)
      refine bodyPost_ret (v := .agg #[.int .i64 23, .int .i64 (Pa.tk l 0).at']) (by simp [results, Tryd.results76, go_sem, hc]) rfl ⟨rfl, ?_, trivial⟩
      exact Kept.of_below (((((below_drewN ((Below.refl _ _).alloc (Nat.le_refl _) _) nq).trans (hb1.mono (by simp))).setCell (by simp) _).setCell (by simp) _))

end Go.Proofs.YtmgjfakdjponoabDoor

/-
  What the reader does with a line; and what it holds between two lines.
-/
namespace Go.Proofs.YtmgjfakdjponoabDoor
open Go.RowKit

namespace Pa
theorem header_code {s : St} {l : List Nu.Tok} {x : Int × Int} (h : header s l = .error x) : 20 ≤ x.1 ∧ x.1 ≤ 26 := by
  unfold header at h
  split at h
  · cases h; simp
  · split at h
    · cases h; simp
    · split at h
      · cases h; simp
      · cases h
theorem edge_code {s : St} {l : List Nu.Tok} {x : Int × Int} (h : edge s l = .error x) : 20 ≤ x.1 ∧ x.1 ≤ 26 := by
  unfold edge at h
  split at h
  · cases h; simp
  · split at h
    · cases h; simp
    · split at h
      · cases h; simp
      · split at h
        · cases h; simp
        · cases h
theorem line_code {s : St} {l : List Nu.Tok} {x : Int × Int} (h : line s l = .error x) : 20 ≤ x.1 ∧ x.1 ≤ 26 := by
  unfold line at h
  split at h
  · exact edge_code h
  · exact header_code h
theorem fin_code {s : St} {a : Int} {x : Int × Int} (h : fin s a = .error x) : 20 ≤ x.1 ∧ x.1 ≤ 26 := by
  unfold fin at h
  split at h
  · cases h; simp
  · split at h
    · cases h; simp
    · cases h
theorem fin_ok {s s' : St} {a : Int} (h : fin s a = .ok s') : s' = s := by
  unfold fin at h
  split at h
  · cases h
  · split at h
    · cases h
    · cases h; rfl
theorem line_grows {s s' : St} {l : List Nu.Tok} (h : line s l = .ok s') : s'.pairs.length ≤ s.pairs.length + 1 := by
  unfold line at h
  split at h
  · unfold edge at h
    split at h
    · cases h
    · split at h
      · cases h
      · split at h
        · cases h
        · split at h
          · cases h
          · cases h; simp
  · unfold header at h
    split at h
    · cases h
    · split at h
      · cases h
      · split at h
        · cases h
        · cases h; simp
end Pa

theorem head_line (B b : Nat) (s : Pa.St) (v : Value) (T o cap : Nat) (l : List Nu.Tok) (w : World) (hr : Rdr w b s v) (hp : OwnPairs w B v s.pairs) (hl : LineAt w T o l) (hne : l ≠ []) (hlen : l.length ≤ 33554433) (hTb : T ≠ b) (hb : b < B) :
    Calls Tryd.prog 75 #[.pointer (some ⟨b, 0, none⟩), .slice (some ⟨T, o, none⟩) l.length cap] w (LinePost B b v (Pa.header s l) w) := by
  refine (header_any b s v T o cap l w hr hl hne hlen hTb).mono ?_
  rintro e w1 ⟨he, hg, hx⟩
  refine ⟨he, Kept.of_grown hg, ?_⟩
  unfold LineOut
  cases hh : Pa.header s l with
  | error x => trivial
  | ok s' =>
    rw [hh] at hx
    refine ⟨v, hx, ?_, fun g h => .inl h⟩
    have e : s'.pairs = s.pairs := by
      unfold Pa.header at hh
      split at hh
      · cases hh
      · split at hh
        · cases hh
        · split at hh
          · cases hh
          · cases hh; rfl
    rw [e]
    exact hp.grown hg hb

/-- The result's cells lie where they lay. -/
theorem line_res {b : Nat} {v : Value} {w w1 : World} (hlt : b < w.heap.size) (hf : ∀ g, v.ownBlock = some g → g < w.heap.size) (hk : Kept b v (w.alloc (.cells #[.int .i64 0, .int .i64 0] 41)) w1) :
    w1.heap[w.heap.size]? = some (.cells #[.int .i64 0, .int .i64 0] 41 (0, 0)) := by
  rw [hk.block w.heap.size (by simp) (by omega) (fun h => by have := hf _ h.symm; omega)]
  exact heap_alloc_new w _

/-- What is left behind, the result stored. -/
theorem line_end {B b : Nat} {v : Value} {r : Except (Int × Int) Pa.St} {w w1 : World} {x : Obj} (hlt : b < w.heap.size) (hf : ∀ g, v.ownBlock = some g → g < w.heap.size) (hk : Kept b v (w.alloc x) w1) (ho : LineOut B b v r (w.alloc x) w1) (a0 a1 : Value) :
    Kept b v w ((w1.setCell ⟨w.heap.size, 0, none⟩ a0).setCell ⟨w.heap.size, 1, none⟩ a1) ∧ LineOut B b v r w ((w1.setCell ⟨w.heap.size, 0, none⟩ a0).setCell ⟨w.heap.size, 1, none⟩ a1) := by
  have hother : ∀ k, k ≠ w.heap.size → ((w1.setCell ⟨w.heap.size, 0, none⟩ a0).setCell ⟨w.heap.size, 1, none⟩ a1).heap[k]? = w1.heap[k]? := fun k h => by
    rw [heap_setCell_other _ ⟨w.heap.size, 1, none⟩ k a1 h, heap_setCell_other _ ⟨w.heap.size, 0, none⟩ k a0 h]
  have hsz : w.heap.size + 1 ≤ w1.heap.size := by simpa using hk.size
  refine ⟨⟨hk.os, hk.tape, hk.output, by simp; omega, fun k hk1 h1 h2 => ?_⟩, ?_⟩
  · rw [hother k (by omega), hk.block k (by simp; omega) h1 h2]
    exact Below.heap_alloc w x k hk1
  · cases r with
    | error y => trivial
    | ok s' =>
      obtain ⟨v', hr, hp, hg⟩ := ho
      refine ⟨v', (hother b (by omega)).trans hr, ⟨hp.1, ?_⟩, fun g h => ?_⟩
      · rcases hp.2 with h | ⟨g, cap, cur, rfl, hgB, hh, hrest⟩
        · exact .inl h
        · refine .inr ⟨g, cap, cur, rfl, hgB, (hother g ?_).trans hh, hrest⟩
          rcases hg g rfl with h | h
          · have := hf g h; omega
          · simp at h; omega
      · rcases hg g h with h | h
        · exact .inl h
        · exact .inr (by simp at h; omega)

set_option maxHeartbeats 2000000 in
theorem line_any (B b : Nat) (s : Pa.St) (v : Value) (T o cap : Nat) (l : List Nu.Tok) (w : World) (hr : Rdr w b s v) (hp : OwnPairs w B v s.pairs) (hl : LineAt w T o l) (hne : l ≠ []) (hlen : l.length ≤ 33554433) (hTb : T ≠ b) (hT : T < B) (hb : b < B) (hB : B ≤ w.heap.size) (hps : s.pairs.length ≤ 33554432) :
    Calls Tryd.prog 62 #[.pointer (some ⟨b, 0, none⟩), .slice (some ⟨T, o, none⟩) l.length cap] w (LinePost B b v (Pa.line s l) w) := by
  have hlt := hr.lt
  have c0 := hr.c0
  have hfar : ∀ g, v.ownBlock = some g → g < w.heap.size := fun g h => by
    obtain ⟨ao, cap, rfl, _, hx⟩ := hp.form
    cases ao with
    | none => simp [Value.ownBlock] at h
    | some x => have := hx x rfl; simp [Value.ownBlock] at h; omega
  have hbw0 : Below w.heap.size w (w.alloc (.cells #[.int .i64 0, .int .i64 0] 41)) := (Below.refl _ _).alloc (Nat.le_refl _) _
  have hr0 := hr.below hbw0 hlt
  have hp0 := hp.below hbw0 (Nat.le_refl _)
  have hl0 := hl.below hbw0 (by omega)
  have HR := Nu.hid hr0
  have HP := Nu.hid hp0
  have HL := Nu.hid hl0
  have HB0 := Nu.hid hbw0
  have HF := Nu.hid hfar
  clear hr hp hl hr0 hp0 hl0 hbw0 hfar
  unfold Pa.line
  cases hbg : s.begun
  · rw [if_neg (by simp)]
    rw [hbg] at c0
    have HBG := Nu.hid hbg
    clear hbg
    go_enter Tryd.func62, Tryd.ntmps62
    go_wp2_with (go_at_call 75; refine (head_line B b s v T o cap l _ HR.out HP.out HL.out hne hlen hTb hb).mono ?_; rintro e w1 ⟨rfl, hk, ho⟩; obtain ⟨z0, z1, z2⟩ := two_cells (line_res hlt HF.out hk); unfold outVal rejVal; have HK := Nu.hid hk; have HO := Nu.hid ho; clear hk ho)
    refine bodyPost_ret (v := outVal (Pa.header s l)) (by simp [results, Tryd.results62, go_sem, *]; rfl) rfl ⟨rfl, line_end hlt HF.out HK.out HO.out _ _⟩
  · rw [if_pos rfl]
    rw [hbg] at c0
    have HBG := Nu.hid hbg
    clear hbg
    go_enter Tryd.func62, Tryd.ntmps62
    go_wp2_with (go_at_call 76; refine (edge_any B b s v T o cap l _ HR.out HP.out HL.out hne hlen hT hb (by simp; omega) hps).mono ?_; rintro e w1 ⟨rfl, hk, ho⟩; obtain ⟨z0, z1, z2⟩ := two_cells (line_res hlt HF.out hk); unfold outVal rejVal; have HK := Nu.hid hk; have HO := Nu.hid ho; clear hk ho)
    refine bodyPost_ret (v := outVal (Pa.edge s l)) (by simp [results, Tryd.results62, go_sem, *]; rfl) rfl ⟨rfl, line_end hlt HF.out HK.out HO.out _ _⟩

theorem line_err (B b : Nat) (s : Pa.St) (v : Value) (T o cap ln : Nat) (l : List Nu.Tok) (w : World) (x : Int × Int) (hx : Pa.line s l = .error x) (hr : Rdr w b s v) (hp : OwnPairs w B v s.pairs) (hl : LineAt w T o l) (hln : ln = l.length) (hne : l ≠ []) (hlen : l.length ≤ 33554433) (hTb : T ≠ b) (hT : T < B) (hb : b < B) (hB : B ≤ w.heap.size) (hps : s.pairs.length ≤ 33554432) :
    Calls Tryd.prog 62 #[.pointer (some ⟨b, 0, none⟩), .slice (some ⟨T, o, none⟩) ln cap] w fun e w' => e = .returned (rejVal x) ∧ Kept b v w w' := by
  subst hln
  refine (line_any B b s v T o cap l w hr hp hl hne hlen hTb hT hb hB hps).mono ?_
  rw [hx]
  exact fun e w' h => ⟨h.1, h.2.1⟩

theorem line_ok (B b : Nat) (s : Pa.St) (v : Value) (T o cap ln : Nat) (l : List Nu.Tok) (w : World) (s' : Pa.St) (hx : Pa.line s l = .ok s') (hr : Rdr w b s v) (hp : OwnPairs w B v s.pairs) (hl : LineAt w T o l) (hln : ln = l.length) (hne : l ≠ []) (hlen : l.length ≤ 33554433) (hTb : T ≠ b) (hT : T < B) (hb : b < B) (hB : B ≤ w.heap.size) (hps : s.pairs.length ≤ 33554432) :
    Calls Tryd.prog 62 #[.pointer (some ⟨b, 0, none⟩), .slice (some ⟨T, o, none⟩) ln cap] w fun e w' => e = .returned (rejVal (0, 0)) ∧ Kept b v w w' ∧ ∃ v', Rdr w' b s' v' ∧ OwnPairs w' B v' s'.pairs := by
  subst hln
  refine (line_any B b s v T o cap l w hr hp hl hne hlen hTb hT hb hB hps).mono ?_
  rw [hx]
  exact fun e w' ⟨h1, h2, v', h3, h4, _⟩ => ⟨h1, h2, v', h3, h4⟩

theorem end_err (B b : Nat) (s : Pa.St) (v : Value) (t : Nu.Tok) (w : World) (x : Int × Int) (hx : Pa.fin s t.at' = .error x) (hr : Rdr w b s v) (hp : OwnPairs w B v s.pairs) :
    Calls Tryd.prog 63 #[.pointer (some ⟨b, 0, none⟩), tokVal t] w fun e w' => e = .returned (rejVal x) ∧ Below w.heap.size w w' := by
  obtain ⟨ao, cap, rfl, _⟩ := hp.form
  refine (end_any b s ao cap t w hr).mono ?_
  rw [hx]
  exact fun e w' h => h

theorem end_ok (B b : Nat) (s s' : Pa.St) (v : Value) (t : Nu.Tok) (w : World) (hx : Pa.fin s t.at' = .ok s') (hr : Rdr w b s v) (hp : OwnPairs w B v s.pairs) :
    Calls Tryd.prog 63 #[.pointer (some ⟨b, 0, none⟩), tokVal t] w fun e w' => e = .returned (rejVal (0, 0)) ∧ Below w.heap.size w w' := by
  obtain ⟨ao, cap, rfl, _⟩ := hp.form
  refine (end_any b s ao cap t w hr).mono ?_
  rw [hx]
  exact fun e w' h => h

theorem LineAt.drop {w : World} {T : Nat} {us vs : List Nu.Tok} (h : LineAt w T 0 (us ++ vs)) (k : Nat) : LineAt w T (k * 4) (us.drop k) := fun j t hj => by
  rw [List.getElem?_drop] at hj
  have hlt := (List.getElem?_eq_some_iff.1 hj).1
  have := h (k + j) t (by rw [List.getElem?_append_left hlt]; exact hj)
  rwa [show 0 + (k + j) * 4 = k * 4 + j * 4 by omega] at this

theorem OwnPairs.low {w : World} {B k : Nat} {v : Value} {ps : List (Int × Int)} (h : OwnPairs w B v ps) (hk : k < B) (i : Nat) (a : Value) : OwnPairs (w.setCell ⟨k, i, none⟩ a) B v ps := by
  refine ⟨h.1, ?_⟩
  rcases h.2 with h | ⟨g, cap, cur, e, hgB, hh, hr⟩
  · exact .inl h
  · exact .inr ⟨g, cap, cur, e, hgB, (heap_setCell_other w ⟨k, i, none⟩ g a (by simp; omega)).trans hh, hr⟩
theorem OwnPairs.base {w : World} {B A : Nat} {v : Value} {ps : List (Int × Int)} (h : OwnPairs w B v ps) (hA : A ≤ B) : OwnPairs w A v ps := by
  refine ⟨h.1, ?_⟩
  rcases h.2 with h | ⟨g, cap, cur, e, hgB, hr⟩
  · exact .inl h
  · exact .inr ⟨g, cap, cur, e, by omega, hr⟩
theorem OwnPairs.drewN {w : World} {B : Nat} {v : Value} {ps : List (Int × Int)} (h : OwnPairs w B v ps) (k : Nat) : OwnPairs (w.drewN k) B v ps := h
theorem OwnPairs.drew {w : World} {B : Nat} {v : Value} {ps : List (Int × Int)} (h : OwnPairs w B v ps) : OwnPairs w.drew B v ps := h

end Go.Proofs.YtmgjfakdjponoabDoor

/-
  What read answers, of the tokens of a text: what the lines say, or the first fault.
-/
namespace Go.Proofs.YtmgjfakdjponoabDoor
open Go.RowKit

/-- What stands in memory beside the reader while the lines are gone through: the two results and the fault, all empty. -/
structure Beside (w wr : World) : Prop where
  bel : Below w.heap.size w wr
  res : wr.heap[w.heap.size]? = some (.cells #[.int .i64 0, .slice none 0 0] 67 (0, 0))
  rej : wr.heap[w.heap.size + 1]? = some (.cells #[.int .i64 0, .int .i64 0] 41 (0, 0))
  flt : wr.heap[w.heap.size + 3]? = some (.cells #[.int .i64 0, .int .i64 0] 41 (0, 0))

theorem Beside.alloc {w wr : World} (h : Beside w wr) (o : Obj) : Beside w (wr.alloc o) :=
  ⟨h.bel.alloc h.bel.size o, (Below.heap_alloc wr o _ (lt_of_block h.res)).trans h.res, (Below.heap_alloc wr o _ (lt_of_block h.rej)).trans h.rej, (Below.heap_alloc wr o _ (lt_of_block h.flt)).trans h.flt⟩
theorem Beside.size {w wr : World} (h : Beside w wr) : w.heap.size + 4 ≤ wr.heap.size := lt_of_block h.flt
theorem Beside.kept {w wr w' : World} {v : Value} {ps : List (Int × Int)} (h : Beside w wr) (hk : Kept (w.heap.size + 2) v wr w') (hp : OwnPairs wr (w.heap.size + 4) v ps) : Beside w w' := by
  have hs := h.size
  have hne : ∀ k, k < w.heap.size + 4 → some k ≠ v.ownBlock := fun k hk => (hp.far hk).symm
  exact ⟨⟨hk.os.trans h.bel.os, hk.tape.trans h.bel.tape, hk.output.trans h.bel.output, by have := hk.size; omega, fun k hk1 => (hk.block k (by omega) (by omega) (hne k (by omega))).trans (h.bel.block k hk1)⟩,
    (hk.block _ (by omega) (by omega) (hne _ (by omega))).trans h.res, (hk.block _ (by omega) (by omega) (hne _ (by omega))).trans h.rej, (hk.block _ (by omega) (by omega) (hne _ (by omega))).trans h.flt⟩
theorem Beside.below {w wr w' : World} (h : Beside w wr) (hb : Below wr.heap.size wr w') : Beside w w' :=
  ⟨h.bel.trans (hb.mono (by have := h.size; omega)), (hb.block _ (lt_of_block h.res)).trans h.res, (hb.block _ (lt_of_block h.rej)).trans h.rej, (hb.block _ (lt_of_block h.flt)).trans h.flt⟩

/-- The fault stored anew: none. -/
theorem Beside.zero {w wr : World} (h : Beside w wr) : Beside w ((wr.setCell ⟨w.heap.size + 3, 0, none⟩ (.int .i64 0)).setCell ⟨w.heap.size + 3, 1, none⟩ (.int .i64 0)) := by
  have ho : ∀ k, k ≠ w.heap.size + 3 → ((wr.setCell ⟨w.heap.size + 3, 0, none⟩ (.int .i64 0)).setCell ⟨w.heap.size + 3, 1, none⟩ (.int .i64 0)).heap[k]? = wr.heap[k]? := fun k hk => by
    rw [heap_setCell_other _ ⟨w.heap.size + 3, 1, none⟩ k _ hk, heap_setCell_other _ ⟨w.heap.size + 3, 0, none⟩ k _ hk]
  refine ⟨⟨h.bel.os, h.bel.tape, h.bel.output, by simpa using h.bel.size, fun k hk => (ho k (by omega)).trans (h.bel.block k hk)⟩, (ho _ (by omega)).trans h.res, (ho _ (by omega)).trans h.rej, ?_⟩
  have h1 := heap_setCell_same wr (w.heap.size + 3) 0 _ _ (.int .i64 0) h.flt
  have h2 := heap_setCell_same _ (w.heap.size + 3) 1 _ _ (.int .i64 0) h1
  simpa using h2

theorem Beside.cells {w wr : World} (h : Beside w wr) : (wr.cell? ⟨w.heap.size, 0, none⟩ = some (.int .i64 0) ∧ wr.cell? ⟨w.heap.size, 1, none⟩ = some (.slice none 0 0) ∧ ∀ i, wr.frozen? ⟨w.heap.size, i, none⟩ = false) ∧
    (wr.cell? ⟨w.heap.size + 1, 0, none⟩ = some (.int .i64 0) ∧ wr.cell? ⟨w.heap.size + 1, 1, none⟩ = some (.int .i64 0) ∧ ∀ i, wr.frozen? ⟨w.heap.size + 1, i, none⟩ = false) ∧
    (wr.cell? ⟨w.heap.size + 1 + 1 + 1, 0, none⟩ = some (.int .i64 0) ∧ wr.cell? ⟨w.heap.size + 1 + 1 + 1, 1, none⟩ = some (.int .i64 0) ∧ ∀ i, wr.frozen? ⟨w.heap.size + 1 + 1 + 1, i, none⟩ = false) := ⟨two_cells h.res, two_cells h.rej, two_cells h.flt⟩

def rawVal (n : Int) (v : Value) : Value := .agg #[.int .i64 n, v]

/-- What is answered: the zero Raw and a fault, or what was read and none. -/
def RawPost (r : Except (Int × Int) Pa.St) (w : World) (e : Ending) (w' : World) : Prop :=
  Below w.heap.size w w' ∧
  ((∃ x, r = .error x ∧ e = .returned (.tuple #[rawVal 0 (.slice none 0 0), rejVal x])) ∨
   (∃ s v, r = .ok s ∧ e = .returned (.tuple #[rawVal s.n v, rejVal (0, 0)]) ∧ OwnPairs w' w.heap.size v s.pairs))

/-- A token's variable, just made, stays over a line. -/
theorem tok_kept {w wr w' : World} {v : Value} {ps : List (Int × Int)} {t : Nu.Tok} (hs : w.heap.size + 4 ≤ wr.heap.size) (hk : Kept (w.heap.size + 2) v (wr.alloc (.cells #[.int .i64 t.kind, .int .i64 t.at', .int .i64 t.fin, .int .i64 t.num] 113)) w') (hp : OwnPairs wr (w.heap.size + 4) v ps) :
    w'.cell? ⟨wr.heap.size, 0, none⟩ = some (.int .i64 t.kind) ∧ w'.cell? ⟨wr.heap.size, 1, none⟩ = some (.int .i64 t.at') ∧ w'.cell? ⟨wr.heap.size, 2, none⟩ = some (.int .i64 t.fin) ∧ w'.cell? ⟨wr.heap.size, 3, none⟩ = some (.int .i64 t.num) ∧ wr.heap.size < w'.heap.size := by
  have hne : some wr.heap.size ≠ v.ownBlock := fun h => by
    obtain ⟨ao, cap, rfl, _, hx⟩ := hp.form
    cases ao with
    | none => simp [Value.ownBlock] at h
    | some x => have := hx x rfl; simp [Value.ownBlock] at h; omega
  have hb : w'.heap[wr.heap.size]? = some (.cells #[.int .i64 t.kind, .int .i64 t.at', .int .i64 t.fin, .int .i64 t.num] 113 (0, 0)) := (hk.block wr.heap.size (by simp) (by omega) hne).trans (heap_alloc_new wr _)
  refine ⟨?_, ?_, ?_, ?_, lt_of_block hb⟩ <;> simp [World.cell?, hb]

theorem OwnPairs.alloc {w : World} {B : Nat} {v : Value} {ps : List (Int × Int)} (h : OwnPairs w B v ps) (o : Obj) : OwnPairs (w.alloc o) B v ps := World.ownsRow.alloc h o

theorem Rdr.two {w wr : World} {s : Pa.St} {v : Value} (h : Rdr wr (w.heap.size + 2) s v) : wr.cell? ⟨w.heap.size + 1 + 1, 1, none⟩ = some (.int .i64 s.n) ∧ wr.cell? ⟨w.heap.size + 1 + 1, 3, none⟩ = some v := ⟨h.c1, h.c3⟩

theorem Rdr.far {w : World} {b k : Nat} {s : Pa.St} {v : Value} (h : Rdr w b s v) (hk : b ≠ k) (i : Nat) (a : Value) : Rdr (w.setCell ⟨k, i, none⟩ a) b s v := (heap_setCell_other w ⟨k, i, none⟩ b a hk).trans h

theorem read_start (w : World) : Beside w ((((w.alloc (.cells #[.int .i64 0, .slice none 0 0] 67)).alloc (.cells #[.int .i64 0, .int .i64 0] 41)).alloc (.cells #[.bool false, .int .i64 0, .int .i64 0, .slice none 0 0] 110)).alloc (.cells #[.int .i64 0, .int .i64 0] 41)) ∧
    Rdr ((((w.alloc (.cells #[.int .i64 0, .slice none 0 0] 67)).alloc (.cells #[.int .i64 0, .int .i64 0] 41)).alloc (.cells #[.bool false, .int .i64 0, .int .i64 0, .slice none 0 0] 110)).alloc (.cells #[.int .i64 0, .int .i64 0] 41)) (w.heap.size + 2) Pa.s0 (.slice none 0 0) := by
  generalize hw1 : w.alloc (.cells #[.int .i64 0, .slice none 0 0] 67) = w1
  generalize hw2 : w1.alloc (.cells #[.int .i64 0, .int .i64 0] 41) = w2
  generalize hw3 : w2.alloc (.cells #[.bool false, .int .i64 0, .int .i64 0, .slice none 0 0] 110) = w3
  have s1 : w1.heap.size = w.heap.size + 1 := by rw [← hw1]; simp
  have s2 : w2.heap.size = w.heap.size + 2 := by rw [← hw2]; simp [s1]
  have s3 : w3.heap.size = w.heap.size + 3 := by rw [← hw3]; simp [s2]
  have e1 : w1.heap[w.heap.size]? = some (.cells #[.int .i64 0, .slice none 0 0] 67 (0, 0)) := by rw [← hw1]; exact heap_alloc_new w _
  have e2 : w2.heap[w.heap.size + 1]? = some (.cells #[.int .i64 0, .int .i64 0] 41 (0, 0)) := by rw [← hw2, ← s1]; exact heap_alloc_new w1 _
  have e3 : w3.heap[w.heap.size + 2]? = some (.cells #[.bool false, .int .i64 0, .int .i64 0, .slice none 0 0] 110 (0, 0)) := by rw [← hw3, ← s2]; exact heap_alloc_new w2 _
  have e4 : (w3.alloc (.cells #[.int .i64 0, .int .i64 0] 41)).heap[w.heap.size + 3]? = some (.cells #[.int .i64 0, .int .i64 0] 41 (0, 0)) := by rw [← s3]; exact heap_alloc_new w3 _
  have m2 : ∀ k, k < w.heap.size + 1 → w2.heap[k]? = w1.heap[k]? := fun k hk => by rw [← hw2]; exact Below.heap_alloc _ _ _ (by omega)
  have m3 : ∀ k, k < w.heap.size + 2 → w3.heap[k]? = w2.heap[k]? := fun k hk => by rw [← hw3]; exact Below.heap_alloc _ _ _ (by omega)
  have m4 : ∀ k, k < w.heap.size + 3 → (w3.alloc (.cells #[.int .i64 0, .int .i64 0] 41)).heap[k]? = w3.heap[k]? := fun k hk => Below.heap_alloc _ _ _ (by omega)
  have hb : Below w.heap.size w (w3.alloc (.cells #[.int .i64 0, .int .i64 0] 41)) := by
    rw [← hw3, ← hw2, ← hw1]
    exact ((((Below.refl _ _).alloc (Nat.le_refl _) _).alloc (by simp) _).alloc (by simp; omega) _).alloc (by simp; omega) _
  exact ⟨⟨hb, by rw [m4 _ (by omega), m3 _ (by omega), m2 _ (by omega)]; exact e1, by rw [m4 _ (by omega), m3 _ (by omega)]; exact e2, e4⟩, (m4 _ (by omega)).trans e3⟩

set_option maxRecDepth 100000 in
set_option maxHeartbeats 4000000 in
theorem read_any (T cap n : Nat) (ts us0 : List Nu.Tok) (w : World) (ht : LineAt w T 0 ts) (hT : T < w.heap.size) (hlen : ts.length ≤ 16777217) (hcap : ts.length ≤ cap) (hts : ts = us0 ++ [⟨3, n, n, 0⟩]) (hk : ∀ t ∈ us0, t.kind = 1 ∨ t.kind = 2) :
    Calls Tryd.prog 45 #[.slice (some ⟨T, 0, none⟩) ts.length cap] w (RawPost (Pa.go Pa.s0 (Pa.lns [] ts) n) w) := by
  have HT := Nu.hid ht
  have HTS := Nu.hid hts
  have HK := Nu.hid hk
  clear ht hts hk
  have B0 := Nu.hid (read_start w).1
  have R0 := Nu.hid (read_start w).2
  go_enter Tryd.func45, Tryd.ntmps45
  go_wp2
  go_step3
  go_wp2
  go_step3
  go_wp2
  go_loopw [12, 6] (fun c bg wr => ∃ (us vs : List Nu.Tok) (k : Nat) (s : Pa.St) (v : Value), us0 = us ++ vs ∧ k ≤ us.length ∧ c = .int .i64 us.length ∧ bg = .int .i64 k ∧
      Pa.go Pa.s0 (Pa.lns [] ts) n = Pa.go s (Pa.lns (us.drop k) (vs ++ [⟨3, n, n, 0⟩])) n ∧ s.pairs.length ≤ us.length ∧ Beside w wr ∧ Rdr wr (w.heap.size + 2) s v ∧ OwnPairs wr (w.heap.size + 4) v s.pairs) (fun c _ _ => ts.length - (intOf c).toNat)
  case atStart => exact ⟨[], us0, 0, Pa.s0, .slice none 0 0, rfl, Nat.le_refl _, rfl, rfl, by rw [HTS.out]; rfl, Nat.le_refl _, B0.out, R0.out, World.ownsRow_nil _ _ _ _⟩
  case round =>
    obtain ⟨us, vs, k, s, v, hus, hku, rfl, rfl, hgo, hps, hbe, hrd, hop⟩ := hrel
    have hl : ts.length = us.length + vs.length + 1 := by rw [HTS.out, hus]; simp; omega
    have hlt : (us.length : Int) < (ts.length : Int) := by omega
    have ip : (0 : Int) ≤ (us.length : Int) := by omega
    have kp : (0 : Int) ≤ (k : Int) := by omega
    have ku : (k : Int) ≤ (us.length : Int) := by omega
    have uc : (us.length : Int) ≤ (cap : Int) := by omega
    have kc : ¬ (cap = k) := by omega
    have hlm : us.length ≤ 16777216 := by omega
    have HLL := Nu.hid hl
    clear hl
    have hdl : us.length - k = (us.drop k).length := by simp
    have HDL := Nu.hid hdl
    clear hdl
    have HUS := Nu.hid hus
    have HGO := Nu.hid hgo
    clear hus hgo
    have hnT : T ≠ w.heap.size + 2 := by omega
    have hcur : LineAt (wr) T (k * 4) (us.drop k) := LineAt.drop (vs := vs ++ [⟨3, n, n, 0⟩]) (by have := HT.out.below hbe.bel hT; rw [HTS.out, HUS.out, List.append_assoc] at this; exact this) k
    have HCUR := Nu.hid hcur
    clear hcur
    cases vs with
    | nil =>
      have hta : TokAt wr T (us.length * 4) ⟨3, n, n, 0⟩ := by
        have := (HT.out.below hbe.bel hT) us.length ⟨3, n, n, 0⟩ (by rw [HTS.out, HUS.out]; simp)
        rwa [Nat.zero_add] at this
      obtain ⟨a0, a1, a2, a3⟩ := hta
      dsimp only at a0 a1 a2 a3
      have hTl : T < wr.heap.size := block_lt_of_cell a0
      have hsz := hbe.size
      have q0 : w.heap.size < wr.heap.size := by omega
      have q1 : w.heap.size + 1 < wr.heap.size := by omega
      have q2 : w.heap.size + 1 + 1 < wr.heap.size := by omega
      have q3 : w.heap.size + 1 + 1 + 1 < wr.heap.size := by omega
      have HBE := Nu.hid hbe
      have HRD := Nu.hid hrd
      have HOP := Nu.hid hop
      clear hbe hrd hop
      obtain ⟨⟨r0, r1, r2⟩, ⟨s0, s1, s2⟩, ⟨f0, f1, f2⟩⟩ := HBE.out.cells
      by_cases hke : k = us.length
      · subst hke
        have e0 : us.drop us.length = [] := by simp
        have E0 := Nu.hid e0
        clear e0
        cases hf : Pa.fin s n with
        | error x =>
          have HF := Nu.hid hf
          clear hf
          have jx : (x.1 != 0) = true := by have := Pa.fin_code HF.out; simp; omega
          go_wp2_with ((go_at_call 63; refine (end_err (w.heap.size + 4) (w.heap.size + 2) s v ⟨3, n, n, 0⟩ _ x HF.out (HRD.out.alloc _) (HOP.out.alloc _)).mono ?_; rintro e w3 ⟨rfl, hb3⟩; have hbe3 := (HBE.out.alloc _).below hb3; obtain ⟨⟨r0, r1, r2⟩, ⟨s0, s1, s2⟩, ⟨f0, f1, f2⟩⟩ := hbe3.cells; have HBE3 := Nu.hid hbe3; unfold rejVal; clear hb3 hbe3))
          go_region
          go_wp2
          rw [Exit.noGoto_ret]
          refine bodyPost_ret (v := .tuple #[rawVal 0 (.slice none 0 0), rejVal x]) (by simp [results, Tryd.results45, go_sem, rawVal, rejVal, *]) rfl ⟨?_, .inl ⟨x, ?_, rfl⟩⟩
          · exact ((((((HBE3.out.bel.setCell (by simp; omega) _).setCell (by simp; omega) _).setCell (by simp) _).setCell (by simp) _).setCell (by simp) _).setCell (by simp) _).drew
          · rw [HGO.out, E0.out, List.nil_append, Pa.lns_empty (by simp)]
            exact HF.out
        | ok s' =>
          have HF := Nu.hid hf
          clear hf
          have hs3 := Pa.fin_ok HF.out
          subst hs3
          obtain ⟨ao, vc, rfl, _⟩ := HOP.out.form
          go_wp2_with ((go_at_call 63; refine (end_ok (w.heap.size + 4) (w.heap.size + 2) s' s' _ ⟨3, n, n, 0⟩ _ HF.out (HRD.out.alloc _) (HOP.out.alloc _)).mono ?_; rintro e w3 ⟨rfl, hb3⟩; have hbe3 := (HBE.out.alloc _).below hb3; have hrd3 := (HRD.out.alloc _).below hb3 (by simp; omega); have hop3 := (HOP.out.alloc _).below hb3 (Nat.le_refl _); obtain ⟨⟨r0, r1, r2⟩, ⟨s0, s1, s2⟩, ⟨f0, f1, f2⟩⟩ := hbe3.cells; obtain ⟨d1, d3⟩ := hrd3.two; have HBE3 := Nu.hid hbe3; have HOP3 := Nu.hid hop3; unfold rejVal; clear hb3 hbe3 hrd3 hop3))
          go_region
          go_wp2
          rw [Exit.noGoto_ret]
          refine bodyPost_ret (v := .tuple #[rawVal s'.n (.slice ao s'.pairs.length vc), rejVal (0, 0)]) (by simp [results, Tryd.results45, go_sem, rawVal, rejVal, *]) rfl ⟨?_, .inr ⟨s', _, ?_, rfl, ?_⟩⟩
          · exact ((((((HBE3.out.bel.setCell (by simp; omega) _).setCell (by simp; omega) _).setCell (by simp) _).setCell (by simp) _).setCell (by simp) _).setCell (by simp) _).drew
          · rw [HGO.out, E0.out, List.nil_append, Pa.lns_empty (by simp)]
            exact HF.out
          · exact ((((((((HOP3.out.low (by omega) 0 _).low (by omega) 1 _).low (by omega) 0 _).low (by omega) 1 _).low (by omega) 0 _).low (by omega) 1 _).drew).base (by omega))
      · have hkl : k < us.length := by omega
        have hkl' : (k : Int) < (us.length : Int) := by omega
        have hne : us.drop k ≠ [] := fun h => by have := congrArg List.length h; simp at this; omega
        have hdm : (us.drop k).length ≤ 33554433 := by rw [List.length_drop]; omega
        have kd : 0 < us.length - k := by omega
        have hpos : (0 : Int) < ((us.length - k : Nat) : Int) := by omega
        cases hln : Pa.line s (us.drop k) with
        | error x =>
          have HLN := Nu.hid hln
          clear hln
          have jx : (x.1 != 0) = true := by have := Pa.line_code HLN.out; simp; omega
          go_wp2_with (go_at_call 62; refine (line_err (w.heap.size + 4) (w.heap.size + 2) s v T (k * 4) _ _ (us.drop k) _ x HLN.out (HRD.out.alloc _) (HOP.out.alloc _) (HCUR.out.below ((Below.refl _ _).alloc (Nat.le_refl _) _) hTl) HDL.out hne hdm hnT (by omega) (by omega) (by simp; omega) (by omega)).mono ?_; rintro e w2 ⟨rfl, hk2⟩; have hbe2 := (HBE.out.alloc _).kept hk2 (HOP.out.alloc _); obtain ⟨⟨r0, r1, r2⟩, ⟨s0, s1, s2⟩, ⟨f0, f1, f2⟩⟩ := hbe2.cells; have HBE2 := Nu.hid hbe2; unfold rejVal; clear hk2 hbe2)
          go_region
          go_wp2
          rw [Exit.noGoto_ret]
          refine bodyPost_ret (v := .tuple #[rawVal 0 (.slice none 0 0), rejVal x]) (by simp [results, Tryd.results45, go_sem, rawVal, rejVal, *]) rfl ⟨?_, .inl ⟨x, ?_, rfl⟩⟩
          · exact ((((((HBE2.out.bel.setCell (by simp; omega) _).setCell (by simp; omega) _).setCell (by simp) _).setCell (by simp) _).setCell (by simp) _).setCell (by simp) _).drew
          · rw [HGO.out, List.nil_append, Pa.lns_line (by simp) hne]
            exact Pa.go_error HLN.out
        | ok s' =>
          have HLN := Nu.hid hln
          clear hln
          have hgrow := Pa.line_grows HLN.out
          cases hf : Pa.fin s' n with
          | error x =>
            have HF := Nu.hid hf
            clear hf
            have jx : (x.1 != 0) = true := by have := Pa.fin_code HF.out; simp; omega
            go_wp2_with (first | (go_at_call 62; refine (line_ok (w.heap.size + 4) (w.heap.size + 2) s v T (k * 4) _ _ (us.drop k) _ s' HLN.out (HRD.out.alloc _) (HOP.out.alloc _) (HCUR.out.below ((Below.refl _ _).alloc (Nat.le_refl _) _) hTl) HDL.out hne hdm hnT (by omega) (by omega) (by simp; omega) (by omega)).mono ?_; rintro e w2 ⟨rfl, hk2, v', hrd2, hop2⟩; have hbe2 := (HBE.out.alloc _).kept hk2 (HOP.out.alloc _); obtain ⟨⟨r0, r1, r2⟩, ⟨s0, s1, s2⟩, ⟨f0, f1, f2⟩⟩ := hbe2.cells; obtain ⟨y0, y1, y2, y3, y4⟩ := tok_kept (t := ⟨3, n, n, 0⟩) hsz hk2 HOP.out; have hsz2 := hbe2.size; have HBE2 := Nu.hid hbe2; have HRD2 := Nu.hid hrd2; have HOP2 := Nu.hid hop2; unfold rejVal; clear hk2 hbe2 hrd2 hop2) | (go_at_call 63; refine (end_err (w.heap.size + 4) (w.heap.size + 2) s' v' ⟨3, n, n, 0⟩ _ x HF.out ((HRD2.out.far (by simp) 0 _).far (by simp) 1 _) ((HOP2.out.low (by omega) 0 _).low (by omega) 1 _)).mono ?_; rintro e w3 ⟨rfl, hb3⟩; have hbe3 := HBE2.out.zero.below hb3; obtain ⟨⟨r0, r1, r2⟩, ⟨s0, s1, s2⟩, ⟨f0, f1, f2⟩⟩ := hbe3.cells; have HBE3 := Nu.hid hbe3; unfold rejVal; clear hb3 hbe3))
            go_region
            go_wp2
            rw [Exit.noGoto_ret]
            refine bodyPost_ret (v := .tuple #[rawVal 0 (.slice none 0 0), rejVal x]) (by simp [results, Tryd.results45, go_sem, rawVal, rejVal, *]) rfl ⟨?_, .inl ⟨x, ?_, rfl⟩⟩
            · exact ((((((HBE3.out.bel.setCell (by simp; omega) _).setCell (by simp; omega) _).setCell (by simp) _).setCell (by simp) _).setCell (by simp) _).setCell (by simp) _).drew
            · rw [HGO.out, List.nil_append, Pa.lns_line (by simp) hne, Pa.go_ok HLN.out]
              exact HF.out
          | ok s3 =>
            have HF := Nu.hid hf
            clear hf
            have hs3 := Pa.fin_ok HF.out
            subst hs3
            go_wp2_with (first | (go_at_call 62; refine (line_ok (w.heap.size + 4) (w.heap.size + 2) s v T (k * 4) _ _ (us.drop k) _ s3 HLN.out (HRD.out.alloc _) (HOP.out.alloc _) (HCUR.out.below ((Below.refl _ _).alloc (Nat.le_refl _) _) hTl) HDL.out hne hdm hnT (by omega) (by omega) (by simp; omega) (by omega)).mono ?_; rintro e w2 ⟨rfl, hk2, v', hrd2, hop2⟩; have hbe2 := (HBE.out.alloc _).kept hk2 (HOP.out.alloc _); obtain ⟨⟨r0, r1, r2⟩, ⟨s0, s1, s2⟩, ⟨f0, f1, f2⟩⟩ := hbe2.cells; obtain ⟨y0, y1, y2, y3, y4⟩ := tok_kept (t := ⟨3, n, n, 0⟩) hsz hk2 HOP.out; have hsz2 := hbe2.size; obtain ⟨ao, vc, rfl, _⟩ := hop2.form; have HBE2 := Nu.hid hbe2; have HRD2 := Nu.hid hrd2; have HOP2 := Nu.hid hop2; unfold rejVal; clear hk2 hbe2 hrd2 hop2) | (go_at_call 63; refine (end_ok (w.heap.size + 4) (w.heap.size + 2) s3 s3 _ ⟨3, n, n, 0⟩ _ HF.out ((HRD2.out.far (by simp) 0 _).far (by simp) 1 _) ((HOP2.out.low (by omega) 0 _).low (by omega) 1 _)).mono ?_; rintro e w3 ⟨rfl, hb3⟩; have hbe3 := HBE2.out.zero.below hb3; have hrd3 := ((HRD2.out.far (by simp) 0 _).far (by simp) 1 _).below hb3 (by simp; omega); have hop3 := ((HOP2.out.low (by omega) 0 _).low (by omega) 1 _).below hb3 (Nat.le_refl _); obtain ⟨⟨r0, r1, r2⟩, ⟨s0, s1, s2⟩, ⟨f0, f1, f2⟩⟩ := hbe3.cells; obtain ⟨d1, d3⟩ := hrd3.two; have HBE3 := Nu.hid hbe3; have HOP3 := Nu.hid hop3; unfold rejVal; clear hb3 hbe3 hrd3 hop3))
            go_region
            go_wp2
            rw [Exit.noGoto_ret]
            refine bodyPost_ret (v := .tuple #[rawVal s3.n (.slice ao s3.pairs.length vc), rejVal (0, 0)]) (by simp [results, Tryd.results45, go_sem, rawVal, rejVal, *]) rfl ⟨?_, .inr ⟨s3, _, ?_, rfl, ?_⟩⟩
            · exact ((((((HBE3.out.bel.setCell (by simp; omega) _).setCell (by simp; omega) _).setCell (by simp) _).setCell (by simp) _).setCell (by simp) _).setCell (by simp) _).drew
            · rw [HGO.out, List.nil_append, Pa.lns_line (by simp) hne, Pa.go_ok HLN.out]
              exact HF.out
            · exact ((((((((HOP3.out.low (by omega) 0 _).low (by omega) 1 _).low (by omega) 0 _).low (by omega) 1 _).low (by omega) 0 _).low (by omega) 1 _).drew).base (by omega))
    | cons t vs =>
      have hta : TokAt wr T (us.length * 4) t := by
        have := (HT.out.below hbe.bel hT) us.length t (by rw [HTS.out, HUS.out]; simp)
        rwa [Nat.zero_add] at this
      obtain ⟨a0, a1, a2, a3⟩ := hta
      have hTl : T < wr.heap.size := block_lt_of_cell a0
      have hsz := hbe.size
      have q0 : w.heap.size < wr.heap.size := by omega
      have q1 : w.heap.size + 1 < wr.heap.size := by omega
      have q2 : w.heap.size + 1 + 1 < wr.heap.size := by omega
      have q3 : w.heap.size + 1 + 1 + 1 < wr.heap.size := by omega
      have hkd := HK.out t (by rw [HUS.out]; simp)
      have HBE := Nu.hid hbe
      have HRD := Nu.hid hrd
      have HOP := Nu.hid hop
      clear hbe hrd hop
      by_cases h1 : t.kind = 1
      · have j1 : (t.kind == 1) = true := by simp [h1]
        have H1 := Nu.hid h1
        clear hkd h1
        go_wp2_with fail
        go_roundw
        case rel =>
          refine ⟨us ++ [t], vs, k, s, v, by rw [HUS.out]; simp, by rw [List.length_append]; omega, by simp, rfl, ?_, by rw [List.length_append]; omega, HBE.out.alloc _, HRD.out.alloc _, HOP.out.alloc _⟩
          rw [HGO.out, List.cons_append, Pa.lns_num H1.out, List.drop_append_of_le_length hku]
        case measure => (have := HLL.out; simp [intOf]; omega)
      · have j1 : (t.kind == 1) = false := by simp [h1]
        have j3 : (t.kind == 3) = false := by simp; omega
        have H1 := Nu.hid h1
        clear hkd h1
        by_cases hke : k = us.length
        · subst hke
          have e0 : us.drop us.length = [] := by simp
          obtain ⟨⟨r0, r1, r2⟩, ⟨s0, s1, s2⟩, ⟨f0, f1, f2⟩⟩ := HBE.out.cells
          have E0 := Nu.hid e0
          clear e0
          go_wp2_with fail
          go_roundw
          case rel =>
            refine ⟨us ++ [t], vs, us.length + 1, s, v, by rw [HUS.out]; simp, by simp, by simp, by go_num, ?_, by rw [List.length_append]; omega, HBE.out.alloc _, HRD.out.alloc _, HOP.out.alloc _⟩
            rw [HGO.out, E0.out, List.cons_append, Pa.lns_empty H1.out, List.drop_of_length_le (by simp)]
          case measure => (have := HLL.out; simp [intOf]; omega)
        · have hkl : k < us.length := by omega
          have hkl' : (k : Int) < (us.length : Int) := by omega
          have hne : us.drop k ≠ [] := fun h => by have := congrArg List.length h; simp at this; omega
          have hdm : (us.drop k).length ≤ 33554433 := by rw [List.length_drop]; omega
          have kd : 0 < us.length - k := by omega
          have hpos : (0 : Int) < ((us.length - k : Nat) : Int) := by omega
          obtain ⟨⟨r0, r1, r2⟩, ⟨s0, s1, s2⟩, ⟨f0, f1, f2⟩⟩ := HBE.out.cells
          cases hln : Pa.line s (us.drop k) with
          | error x =>
            have HLN := Nu.hid hln
            clear hln
            have jx : (x.1 != 0) = true := by have := Pa.line_code HLN.out; simp; omega
            go_wp2_with (go_at_call 62; refine (line_err (w.heap.size + 4) (w.heap.size + 2) s v T (k * 4) _ _ (us.drop k) _ x HLN.out (HRD.out.alloc _) (HOP.out.alloc _) (HCUR.out.below ((Below.refl _ _).alloc (Nat.le_refl _) _) hTl) HDL.out hne hdm hnT (by omega) (by omega) (by simp; omega) (by omega)).mono ?_; rintro e w2 ⟨rfl, hk2⟩; have hbe2 := (HBE.out.alloc _).kept hk2 (HOP.out.alloc _); obtain ⟨⟨r0, r1, r2⟩, ⟨s0, s1, s2⟩, ⟨f0, f1, f2⟩⟩ := hbe2.cells; have HBE2 := Nu.hid hbe2; unfold rejVal; clear hk2 hbe2)
            go_region
            go_wp2
            rw [Exit.noGoto_ret]
            refine bodyPost_ret (v := .tuple #[rawVal 0 (.slice none 0 0), rejVal x]) (by simp [results, Tryd.results45, go_sem, rawVal, rejVal, *]) rfl ⟨?_, .inl ⟨x, ?_, rfl⟩⟩
            · exact ((((((HBE2.out.bel.setCell (by simp; omega) _).setCell (by simp; omega) _).setCell (by simp) _).setCell (by simp) _).setCell (by simp) _).setCell (by simp) _).drew
            · rw [HGO.out, List.cons_append, Pa.lns_line H1.out hne]
              exact Pa.go_error HLN.out
          | ok s' =>
            have HLN := Nu.hid hln
            clear hln
            go_wp2_with (go_at_call 62; refine (line_ok (w.heap.size + 4) (w.heap.size + 2) s v T (k * 4) _ _ (us.drop k) _ s' HLN.out (HRD.out.alloc _) (HOP.out.alloc _) (HCUR.out.below ((Below.refl _ _).alloc (Nat.le_refl _) _) hTl) HDL.out hne hdm hnT (by omega) (by omega) (by simp; omega) (by omega)).mono ?_; rintro e w2 ⟨rfl, hk2, v', hrd2, hop2⟩; have hbe2 := (HBE.out.alloc _).kept hk2 (HOP.out.alloc _); obtain ⟨⟨r0, r1, r2⟩, ⟨s0, s1, s2⟩, ⟨f0, f1, f2⟩⟩ := hbe2.cells; obtain ⟨y0, y1, y2, y3, y4⟩ := tok_kept hsz hk2 HOP.out; have HBE2 := Nu.hid hbe2; have HRD2 := Nu.hid hrd2; have HOP2 := Nu.hid hop2; unfold rejVal; clear hk2 hbe2 hrd2 hop2)
            go_roundw
            case rel =>
              refine ⟨us ++ [t], vs, us.length + 1, s', v', by rw [HUS.out]; simp, by simp, by simp, by go_num, ?_, by have := Pa.line_grows HLN.out; rw [List.length_append]; simp; omega, HBE2.out.zero, (HRD2.out.far (by simp) 0 _).far (by simp) 1 _, (HOP2.out.low (by omega) 0 _).low (by omega) 1 _⟩
              rw [HGO.out, List.cons_append, Pa.lns_line H1.out hne, Pa.go_ok HLN.out, List.drop_of_length_le (by simp)]
            case measure => (have := HLL.out; simp [intOf]; omega)

end Go.Proofs.YtmgjfakdjponoabDoor

/-
  What Raw and Accepts answer, of any bytes.
-/
namespace Go.Proofs.YtmgjfakdjponoabDoor
open Go.RowKit

theorem RowToks.line {w : World} {T m : Nat} {us : List Nu.Tok} (h : RowToks w T m us) : LineAt w T 0 us := fun j t hj => by
  obtain ⟨arr, har, _, hac⟩ := h
  obtain ⟨h0, h1, h2, h3⟩ := hac j t hj
  rw [Nat.zero_add]
  exact ⟨(cell_of_row w T _ _ _ _ har).trans h0, (cell_of_row w T _ _ _ _ har).trans h1, (cell_of_row w T _ _ _ _ har).trans h2, (cell_of_row w T _ _ _ _ har).trans h3⟩

/-- The two results, as they were made. -/
structure Two (w w1 : World) : Prop where
  bel : Below w.heap.size w w1
  res : w1.heap[w.heap.size]? = some (.cells #[.int .i64 0, .slice none 0 0] 67 (0, 0))
  rej : w1.heap[w.heap.size + 1]? = some (.cells #[.int .i64 0, .int .i64 0] 41 (0, 0))

theorem Two.new (w : World) : Two w ((w.alloc (.cells #[.int .i64 0, .slice none 0 0] 67)).alloc (.cells #[.int .i64 0, .int .i64 0] 41)) := by
  refine ⟨((Below.refl _ _).alloc (Nat.le_refl _) _).alloc (by simp) _, ?_, ?_⟩
  · rw [Below.heap_alloc _ _ _ (by simp)]
    exact heap_alloc_new w _
  · have := heap_alloc_new (w.alloc (.cells #[.int .i64 0, .slice none 0 0] 67)) (.cells #[.int .i64 0, .int .i64 0] 41)
    simpa using this
theorem Two.size {w w1 : World} (h : Two w w1) : w.heap.size + 2 ≤ w1.heap.size := lt_of_block h.rej
theorem Two.below {w w1 w2 : World} (h : Two w w1) (hb : Below w1.heap.size w1 w2) : Two w w2 :=
  ⟨h.bel.trans (hb.mono (by have := h.size; omega)), (hb.block _ (lt_of_block h.res)).trans h.res, (hb.block _ (lt_of_block h.rej)).trans h.rej⟩
theorem Two.cells {w wr : World} (h : Two w wr) : (wr.cell? ⟨w.heap.size, 0, none⟩ = some (.int .i64 0) ∧ wr.cell? ⟨w.heap.size, 1, none⟩ = some (.slice none 0 0) ∧ ∀ i, wr.frozen? ⟨w.heap.size, i, none⟩ = false) ∧
    (wr.cell? ⟨w.heap.size + 1, 0, none⟩ = some (.int .i64 0) ∧ wr.cell? ⟨w.heap.size + 1, 1, none⟩ = some (.int .i64 0) ∧ ∀ i, wr.frozen? ⟨w.heap.size + 1, i, none⟩ = false) := ⟨two_cells h.res, two_cells h.rej⟩

set_option maxRecDepth 100000 in
set_option maxHeartbeats 2000000 in
theorem raw_any (ao : Option Addr) (n cap : Nat) (g : Nat → Int) (w : World) (ht : HasText w ao n g) (hao : ∀ x, ao = some x → x.block < w.heap.size) (hn : n ≤ maxLen) (hcap : n ≤ cap) :
    Calls Tryd.prog 30 #[.slice ao n cap] w (RawPost (Pa.raw g n) w) := by
  have hn' := hn
  unfold maxLen at hn'
  by_cases hA : 16777216 < n
  · have j0 : (16777216 : Int) < (n : Int) := by omega
    have hraw : Pa.raw g n = .error (10, 16777216) := by unfold Pa.raw; rw [if_pos hA]
    have HRAW := Nu.hid hraw
    clear hraw
    go_enter Tryd.func30, Tryd.ntmps30
    go_wp2
    refine bodyPost_ret (v := .tuple #[rawVal 0 (.slice none 0 0), rejVal (10, 16777216)]) (by simp [results, Tryd.results30, go_sem, rawVal, rejVal]) rfl ⟨?_, .inl ⟨(10, 16777216), HRAW.out, rfl⟩⟩
    exact ((Below.refl _ _).alloc (Nat.le_refl _) _).alloc (by simp) _
  · have j0 : ¬ ((16777216 : Int) < (n : Int)) := by omega
    have hb0 : Below w.heap.size w ((w.alloc (.cells #[.int .i64 0, .slice none 0 0] 67)).alloc (.cells #[.int .i64 0, .int .i64 0] 41)) := ((Below.refl _ _).alloc (Nat.le_refl _) _).alloc (by simp) _
    have HT0 := Nu.hid (ht.below hb0 hao)
    have HB0 := Nu.hid hb0
    clear ht hb0
    go_enter Tryd.func30, Tryd.ntmps30
    go_wp2_with (go_at_call 44; refine (scan_any ao n cap g _ HT0.out (fun x hx => by have := hao x hx; simp; omega) hn hcap).mono ?_; refine Hid.out ?_)
    refine Nu.hid ?_
    rintro e w1 ⟨hb1, hx⟩
    have two1 := (Two.new w).below hb1
    have hbw1 := two1.bel
    obtain ⟨⟨r0, r1, r2⟩, ⟨s0, s1, s2⟩⟩ := two1.cells
    have hz := two1.size
    have TWO1 := Nu.hid two1
    clear two1
    have q0 : w.heap.size < w1.heap.size := by omega
    have q1 : w.heap.size + 1 < w1.heap.size := by omega
    have HBW1 := Nu.hid hbw1
    clear hbw1 hb1
    rcases hx with ⟨h, _⟩ | ⟨_, x, hs, rfl⟩ | ⟨_, ts, T, hs, rfl, hT, hrow⟩
    · omega
    · have hraw : Pa.raw g n = .error (x.2, x.1) := by unfold Pa.raw; rw [if_neg hA, hs]
      have hcode := Nu.scan_code hs
      have jx : (x.2 != 0) = true := by simp; omega
      have HRAW := Nu.hid hraw
      clear hraw hs hcode
      go_wp2
      refine bodyPost_ret (v := .tuple #[rawVal 0 (.slice none 0 0), rejVal (x.2, x.1)]) (by simp [results, Tryd.results30, go_sem, rawVal, rejVal, *]) rfl ⟨?_, .inl ⟨(x.2, x.1), HRAW.out, rfl⟩⟩
      exact (((HBW1.out.setCell (by simp) _).setCell (by simp) _).setCell (by simp) _).setCell (by simp) _
    · have hraw : Pa.raw g n = Pa.go Pa.s0 (Pa.lns [] ts) n := by unfold Pa.raw; rw [if_neg hA, hs]; rfl
      obtain ⟨us0, hus, hk⟩ := Pa.scan_shape hs
      have hlen := Nu.scan_length hs
      have HL := Nu.hid hrow.line
      have hTl : T < w1.heap.size := by obtain ⟨arr, har, _⟩ := hrow; exact lt_of_block har
      have HRAW := Nu.hid hraw
      have HUS := Nu.hid hus
      have HK := Nu.hid hk
      clear hraw hs hrow hus hk
      go_wp2_with (go_at_call 45; refine (read_any T _ n ts us0 _ HL.out hTl (by omega) (Nat.le_refl _) HUS.out HK.out).mono ?_; refine Hid.out ?_)
      refine Nu.hid ?_
      rintro e w2 ⟨hb2, hx⟩
      obtain ⟨⟨r0, r1, r2⟩, ⟨s0, s1, s2⟩⟩ := (TWO1.out.below hb2).cells
      have HBW2 := Nu.hid (HBW1.out.trans (hb2.mono (by omega)))
      clear hb2
      unfold rawVal rejVal at hx
      rcases hx with ⟨x, hr, rfl⟩ | ⟨s, v, hr, rfl, hop⟩
      · have HR := Nu.hid hr
        clear hr
        go_wp2
        refine bodyPost_ret (v := .tuple #[rawVal 0 (.slice none 0 0), rejVal x]) (by simp [results, Tryd.results30, go_sem, rawVal, rejVal, *]) rfl ⟨?_, .inl ⟨x, HRAW.out.trans HR.out, rfl⟩⟩
        exact (((HBW2.out.setCell (by simp) _).setCell (by simp) _).setCell (by simp) _).setCell (by simp) _
      · have HR := Nu.hid hr
        clear hr
        obtain ⟨va, vc, rfl, _⟩ := hop.form
        have HOP := Nu.hid hop
        clear hop
        go_wp2
        refine bodyPost_ret (v := .tuple #[rawVal s.n (.slice va s.pairs.length vc), rejVal (0, 0)]) (by simp [results, Tryd.results30, go_sem, rawVal, rejVal, *]) rfl ⟨?_, .inr ⟨s, _, HRAW.out.trans HR.out, rfl, ?_⟩⟩
        · exact (((HBW2.out.setCell (by simp) _).setCell (by simp) _).setCell (by simp) _).setCell (by simp) _
        · exact ((((HOP.out.low (by omega) 0 _).low (by omega) 1 _).low (by omega) 0 _).low (by omega) 1 _).base (by omega)

end Go.Proofs.YtmgjfakdjponoabDoor

/-
  What '==' says of pairs and of faults; lists of pairs, read.
-/
namespace Go.Proofs.YtmgjfakdjponoabDoor
open Go.RowKit

/-- What '==' says of two pairs. -/
theorem eqPair (a b c d : Int) (w : World) : (Op.equalIn 10000 34 (.agg #[.int .i64 a, .int .i64 b]) (.agg #[.int .i64 c, .int .i64 d])).run Tryd.prog w = .ok (a == c && b == d) w := by
  have u3 := Tryd.underlying3
  have a3 := Tryd.isAgg3
  have z3 := Tryd.sizeOf3
  rw [show (10000 : Nat) = 9999 + 1 from rfl, Op.equalIn]
  simp only [Sem.run_bind, run_underlying Tryd.underlying34, Result.andThen_ok]
  simp only [Std.Legacy.Range.forIn_eq_forIn_range', Std.Legacy.Range.size, Nat.sub_zero, Nat.add_sub_cancel, Nat.div_one, List.range'_succ, List.range'_zero, List.forIn_cons, List.forIn_nil]
  go_simp
  by_cases h1 : a = c <;> by_cases h2 : b = d <;> simp [h1, h2]

/-- What '==' says of two faults. -/
theorem eqReject (a b c d : Int) (w : World) : (Op.equalIn 10000 41 (.agg #[.int .i64 a, .int .i64 b]) (.agg #[.int .i64 c, .int .i64 d])).run Tryd.prog w = .ok (a == c && b == d) w := by
  have u3 := Tryd.underlying3
  have a3 := Tryd.isAgg3
  have z3 := Tryd.sizeOf3
  have u4 := Tryd.underlying29
  have a4 := Tryd.isAgg29
  have z4 := Tryd.sizeOf29
  have hS : Tryd.prog.underlying 41 = some (.struct (Tryd.prog.fieldsOf 41)) := by kernel_rfl
  rw [show (10000 : Nat) = 9999 + 1 from rfl, run_equalIn_agg w 9999 41 _ _ hS (by kernel_rfl)]
  simp only [Program.fieldsOf, Tryd.underlying41]
  go_simp
  by_cases h1 : a = c <;> by_cases h2 : b = d <;> simp [h1, h2]

/-- v is a list of the pairs ps. -/
def PairsAt (w : World) (v : Value) (ps : List (Int × Int)) : Prop := ∃ ao cap, v = .slice ao ps.length cap ∧ ∀ (j : Nat) (p : Int × Int), ps[j]? = some p → ∃ P : Nat, ao = some ⟨P, 0, none⟩ ∧ w.cell? ⟨P, j * 2, none⟩ = some (.int .i64 p.1) ∧ w.cell? ⟨P, j * 2 + 1, none⟩ = some (.int .i64 p.2)

theorem flatP_at : ∀ (ps : List (Int × Int)) (j : Nat) (p : Int × Int), ps[j]? = some p → (flatP ps)[j * 2]? = some (.int .i64 p.1) ∧ (flatP ps)[j * 2 + 1]? = some (.int .i64 p.2)
  | [], j, p, h => by simp at h
  | q :: ps, 0, p, h => by
    simp at h
    subst h
    simp [flatP]
  | q :: ps, j + 1, p, h => by
    have ih := flatP_at ps j p (by simpa using h)
    have e : flatP (q :: ps) = .int .i64 q.1 :: .int .i64 q.2 :: flatP ps := by simp [flatP]
    rw [e, show (j + 1) * 2 = j * 2 + 1 + 1 by omega, show j * 2 + 1 + 1 + 1 = (j * 2 + 1) + 1 + 1 by omega]
    simpa using ih

theorem OwnPairs.at {w : World} {B : Nat} {v : Value} {ps : List (Int × Int)} (h : OwnPairs w B v ps) : PairsAt w v ps := by
  have h' := h
  unfold OwnPairs at h'
  rcases h.2 with ⟨rfl, h0⟩ | ⟨g, cap, cur, rfl, _⟩
  · refine ⟨none, 0, by rw [h0], fun j p hj => ?_⟩
    rw [List.length_eq_zero_iff.1 h0] at hj
    simp at hj
  · refine ⟨_, cap, rfl, fun j p hj => ⟨g, rfl, ?_⟩⟩
    have hc := World.ownsRow.cells h' (g := g) rfl
    simp only [addr0] at hc
    obtain ⟨h0, h1⟩ := flatP_at ps j p hj
    exact ⟨hc _ _ h0, hc _ _ h1⟩

theorem PairsAt.below {w w' : World} {B : Nat} {v : Value} {ps : List (Int × Int)} (h : PairsAt w v ps) (hb : Below B w w') (hB : w.heap.size ≤ B) : PairsAt w' v ps := by
  obtain ⟨ao, cap, rfl, hx⟩ := h
  refine ⟨ao, cap, rfl, fun j p hj => ?_⟩
  obtain ⟨P, ha, h0, h1⟩ := hx j p hj
  have hl := block_lt_of_cell h0
  simp at hl
  exact ⟨P, ha, (hb.cell (p := ⟨P, j * 2, none⟩) (show P < B by omega)).trans h0, (hb.cell (p := ⟨P, j * 2 + 1, none⟩) (show P < B by omega)).trans h1⟩

end Go.Proofs.YtmgjfakdjponoabDoor
