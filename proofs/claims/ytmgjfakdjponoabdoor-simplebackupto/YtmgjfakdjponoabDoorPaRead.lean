/-
  What read answers, of the tokens of a text: what the lines say, or the first fault.
-/
import Derived.Test.YtmgjfakdjponoabDoorPaLine
import Derived.WalkMore
namespace Go.Proofs.YtmgjfakdjponoabDoor
open Go.RowKit

/-- What stands in memory beside the reader while the lines are gone through: the two results and the fault, all empty. -/
structure Beside (w wr : World) : Prop where
  bel : Below w.heap.size w wr
  res : wr.heap[w.heap.size]? = some (.cells #[.int .i64 0, .slice none 0 0] 67 (0, 0))
  rej : wr.heap[w.heap.size + 1]? = some (.cells #[.int .i64 0, .int .i64 0] 41 (0, 0))
  flt : wr.heap[w.heap.size + 3]? = some (.cells #[.int .i64 0, .int .i64 0] 41 (0, 0))

theorem Beside.alloc {w wr : World} (h : Beside w wr) (o : Obj) : Beside w (wr.alloc o) :=
  ⟨h.bel.alloc h.bel.size o, (Below.heap_alloc wr o _ (lt_of_block h.res)).trans h.res, (Below.heap_alloc wr o _ (lt_of_block h.rej)).trans h.rej, (Below.heap_alloc wr o _ (lt_of_block h.flt)).trans h.flt⟩
theorem Beside.size {w wr : World} (h : Beside w wr) : w.heap.size + 4 ≤ wr.heap.size := lt_of_block h.flt
theorem Beside.kept {w wr w' : World} {v : Value} {ps : List (Int × Int)} (h : Beside w wr) (hk : Kept (w.heap.size + 2) v wr w') (hp : OwnPairs wr (w.heap.size + 4) v ps) : Beside w w' := by
  have hs := h.size
  have hne : ∀ k, k < w.heap.size + 4 → some k ≠ v.ownBlock := fun k hk => (hp.far hk).symm
  exact ⟨⟨hk.os.trans h.bel.os, hk.tape.trans h.bel.tape, hk.output.trans h.bel.output, by have := hk.size; omega, fun k hk1 => (hk.block k (by omega) (by omega) (hne k (by omega))).trans (h.bel.block k hk1)⟩,
    (hk.block _ (by omega) (by omega) (hne _ (by omega))).trans h.res, (hk.block _ (by omega) (by omega) (hne _ (by omega))).trans h.rej, (hk.block _ (by omega) (by omega) (hne _ (by omega))).trans h.flt⟩
theorem Beside.below {w wr w' : World} (h : Beside w wr) (hb : Below wr.heap.size wr w') : Beside w w' :=
  ⟨h.bel.trans (hb.mono (by have := h.size; omega)), (hb.block _ (lt_of_block h.res)).trans h.res, (hb.block _ (lt_of_block h.rej)).trans h.rej, (hb.block _ (lt_of_block h.flt)).trans h.flt⟩

/-- The fault stored anew: none. -/
theorem Beside.zero {w wr : World} (h : Beside w wr) : Beside w ((wr.setCell ⟨w.heap.size + 3, 0, none⟩ (.int .i64 0)).setCell ⟨w.heap.size + 3, 1, none⟩ (.int .i64 0)) := by
  have ho : ∀ k, k ≠ w.heap.size + 3 → ((wr.setCell ⟨w.heap.size + 3, 0, none⟩ (.int .i64 0)).setCell ⟨w.heap.size + 3, 1, none⟩ (.int .i64 0)).heap[k]? = wr.heap[k]? := fun k hk => by
    rw [heap_setCell_other _ ⟨w.heap.size + 3, 1, none⟩ k _ hk, heap_setCell_other _ ⟨w.heap.size + 3, 0, none⟩ k _ hk]
  refine ⟨⟨h.bel.os, h.bel.tape, h.bel.output, by simpa using h.bel.size, fun k hk => (ho k (by omega)).trans (h.bel.block k hk)⟩, (ho _ (by omega)).trans h.res, (ho _ (by omega)).trans h.rej, ?_⟩
  have h1 := heap_setCell_same wr (w.heap.size + 3) 0 _ _ (.int .i64 0) h.flt
  have h2 := heap_setCell_same _ (w.heap.size + 3) 1 _ _ (.int .i64 0) h1
  simpa using h2

theorem Beside.cells {w wr : World} (h : Beside w wr) : (wr.cell? ⟨w.heap.size, 0, none⟩ = some (.int .i64 0) ∧ wr.cell? ⟨w.heap.size, 1, none⟩ = some (.slice none 0 0) ∧ ∀ i, wr.frozen? ⟨w.heap.size, i, none⟩ = false) ∧
    (wr.cell? ⟨w.heap.size + 1, 0, none⟩ = some (.int .i64 0) ∧ wr.cell? ⟨w.heap.size + 1, 1, none⟩ = some (.int .i64 0) ∧ ∀ i, wr.frozen? ⟨w.heap.size + 1, i, none⟩ = false) ∧
    (wr.cell? ⟨w.heap.size + 1 + 1 + 1, 0, none⟩ = some (.int .i64 0) ∧ wr.cell? ⟨w.heap.size + 1 + 1 + 1, 1, none⟩ = some (.int .i64 0) ∧ ∀ i, wr.frozen? ⟨w.heap.size + 1 + 1 + 1, i, none⟩ = false) := ⟨two_cells h.res, two_cells h.rej, two_cells h.flt⟩

def rawVal (n : Int) (v : Value) : Value := .agg #[.int .i64 n, v]

/-- What is answered: the zero Raw and a fault, or what was read and none. -/
def RawPost (r : Except (Int × Int) Pa.St) (w : World) (e : Ending) (w' : World) : Prop :=
  Below w.heap.size w w' ∧
  ((∃ x, r = .error x ∧ e = .returned (.tuple #[rawVal 0 (.slice none 0 0), rejVal x])) ∨
   (∃ s v, r = .ok s ∧ e = .returned (.tuple #[rawVal s.n v, rejVal (0, 0)]) ∧ OwnPairs w' w.heap.size v s.pairs))

/-- A token's variable, just made, stays over a line. -/
theorem tok_kept {w wr w' : World} {v : Value} {ps : List (Int × Int)} {t : Nu.Tok} (hs : w.heap.size + 4 ≤ wr.heap.size) (hk : Kept (w.heap.size + 2) v (wr.alloc (.cells #[.int .i64 t.kind, .int .i64 t.at', .int .i64 t.fin, .int .i64 t.num] 113)) w') (hp : OwnPairs wr (w.heap.size + 4) v ps) :
    w'.cell? ⟨wr.heap.size, 0, none⟩ = some (.int .i64 t.kind) ∧ w'.cell? ⟨wr.heap.size, 1, none⟩ = some (.int .i64 t.at') ∧ w'.cell? ⟨wr.heap.size, 2, none⟩ = some (.int .i64 t.fin) ∧ w'.cell? ⟨wr.heap.size, 3, none⟩ = some (.int .i64 t.num) ∧ wr.heap.size < w'.heap.size := by
  have hne : some wr.heap.size ≠ v.ownBlock := fun h => by
    obtain ⟨ao, cap, rfl, _, hx⟩ := hp.form
    cases ao with
    | none => simp [Value.ownBlock] at h
    | some x => have := hx x rfl; simp [Value.ownBlock] at h; omega
  have hb : w'.heap[wr.heap.size]? = some (.cells #[.int .i64 t.kind, .int .i64 t.at', .int .i64 t.fin, .int .i64 t.num] 113 (0, 0)) := (hk.block wr.heap.size (by simp) (by omega) hne).trans (heap_alloc_new wr _)
  refine ⟨?_, ?_, ?_, ?_, lt_of_block hb⟩ <;> simp [World.cell?, hb]

theorem OwnPairs.alloc {w : World} {B : Nat} {v : Value} {ps : List (Int × Int)} (h : OwnPairs w B v ps) (o : Obj) : OwnPairs (w.alloc o) B v ps := World.ownsRow.alloc h o

theorem Rdr.two {w wr : World} {s : Pa.St} {v : Value} (h : Rdr wr (w.heap.size + 2) s v) : wr.cell? ⟨w.heap.size + 1 + 1, 1, none⟩ = some (.int .i64 s.n) ∧ wr.cell? ⟨w.heap.size + 1 + 1, 3, none⟩ = some v := ⟨h.c1, h.c3⟩

theorem Rdr.far {w : World} {b k : Nat} {s : Pa.St} {v : Value} (h : Rdr w b s v) (hk : b ≠ k) (i : Nat) (a : Value) : Rdr (w.setCell ⟨k, i, none⟩ a) b s v := (heap_setCell_other w ⟨k, i, none⟩ b a hk).trans h

theorem read_start (w : World) : Beside w ((((w.alloc (.cells #[.int .i64 0, .slice none 0 0] 67)).alloc (.cells #[.int .i64 0, .int .i64 0] 41)).alloc (.cells #[.bool false, .int .i64 0, .int .i64 0, .slice none 0 0] 110)).alloc (.cells #[.int .i64 0, .int .i64 0] 41)) ∧
    Rdr ((((w.alloc (.cells #[.int .i64 0, .slice none 0 0] 67)).alloc (.cells #[.int .i64 0, .int .i64 0] 41)).alloc (.cells #[.bool false, .int .i64 0, .int .i64 0, .slice none 0 0] 110)).alloc (.cells #[.int .i64 0, .int .i64 0] 41)) (w.heap.size + 2) Pa.s0 (.slice none 0 0) := by
  generalize hw1 : w.alloc (.cells #[.int .i64 0, .slice none 0 0] 67) = w1
  generalize hw2 : w1.alloc (.cells #[.int .i64 0, .int .i64 0] 41) = w2
  generalize hw3 : w2.alloc (.cells #[.bool false, .int .i64 0, .int .i64 0, .slice none 0 0] 110) = w3
  have s1 : w1.heap.size = w.heap.size + 1 := by rw [← hw1]; simp
  have s2 : w2.heap.size = w.heap.size + 2 := by rw [← hw2]; simp [s1]
  have s3 : w3.heap.size = w.heap.size + 3 := by rw [← hw3]; simp [s2]
  have e1 : w1.heap[w.heap.size]? = some (.cells #[.int .i64 0, .slice none 0 0] 67 (0, 0)) := by rw [← hw1]; exact heap_alloc_new w _
  have e2 : w2.heap[w.heap.size + 1]? = some (.cells #[.int .i64 0, .int .i64 0] 41 (0, 0)) := by rw [← hw2, ← s1]; exact heap_alloc_new w1 _
  have e3 : w3.heap[w.heap.size + 2]? = some (.cells #[.bool false, .int .i64 0, .int .i64 0, .slice none 0 0] 110 (0, 0)) := by rw [← hw3, ← s2]; exact heap_alloc_new w2 _
  have e4 : (w3.alloc (.cells #[.int .i64 0, .int .i64 0] 41)).heap[w.heap.size + 3]? = some (.cells #[.int .i64 0, .int .i64 0] 41 (0, 0)) := by rw [← s3]; exact heap_alloc_new w3 _
  have m2 : ∀ k, k < w.heap.size + 1 → w2.heap[k]? = w1.heap[k]? := fun k hk => by rw [← hw2]; exact Below.heap_alloc _ _ _ (by omega)
  have m3 : ∀ k, k < w.heap.size + 2 → w3.heap[k]? = w2.heap[k]? := fun k hk => by rw [← hw3]; exact Below.heap_alloc _ _ _ (by omega)
  have m4 : ∀ k, k < w.heap.size + 3 → (w3.alloc (.cells #[.int .i64 0, .int .i64 0] 41)).heap[k]? = w3.heap[k]? := fun k hk => Below.heap_alloc _ _ _ (by omega)
  have hb : Below w.heap.size w (w3.alloc (.cells #[.int .i64 0, .int .i64 0] 41)) := by
    rw [← hw3, ← hw2, ← hw1]
    exact ((((Below.refl _ _).alloc (Nat.le_refl _) _).alloc (by simp) _).alloc (by simp; omega) _).alloc (by simp; omega) _
  exact ⟨⟨hb, by rw [m4 _ (by omega), m3 _ (by omega), m2 _ (by omega)]; exact e1, by rw [m4 _ (by omega), m3 _ (by omega)]; exact e2, e4⟩, (m4 _ (by omega)).trans e3⟩

set_option maxRecDepth 100000 in
set_option maxHeartbeats 4000000 in
theorem read_any (T cap n : Nat) (ts us0 : List Nu.Tok) (w : World) (ht : LineAt w T 0 ts) (hT : T < w.heap.size) (hlen : ts.length ≤ 16777217) (hcap : ts.length ≤ cap) (hts : ts = us0 ++ [⟨3, n, n, 0⟩]) (hk : ∀ t ∈ us0, t.kind = 1 ∨ t.kind = 2) :
    Calls Tryd.prog 45 #[.slice (some ⟨T, 0, none⟩) ts.length cap] w (RawPost (Pa.go Pa.s0 (Pa.lns [] ts) n) w) := by
  have HT := Nu.hid ht
  have HTS := Nu.hid hts
  have HK := Nu.hid hk
  clear ht hts hk
  have B0 := Nu.hid (read_start w).1
  have R0 := Nu.hid (read_start w).2
  go_enter Tryd.func45, Tryd.ntmps45
  go_wp2
  go_step3
  go_wp2
  go_step3
  go_wp2
  go_loopw [12, 6] (fun c bg wr => ∃ (us vs : List Nu.Tok) (k : Nat) (s : Pa.St) (v : Value), us0 = us ++ vs ∧ k ≤ us.length ∧ c = .int .i64 us.length ∧ bg = .int .i64 k ∧
      Pa.go Pa.s0 (Pa.lns [] ts) n = Pa.go s (Pa.lns (us.drop k) (vs ++ [⟨3, n, n, 0⟩])) n ∧ s.pairs.length ≤ us.length ∧ Beside w wr ∧ Rdr wr (w.heap.size + 2) s v ∧ OwnPairs wr (w.heap.size + 4) v s.pairs) (fun c _ _ => ts.length - (intOf c).toNat)
  case atStart => exact ⟨[], us0, 0, Pa.s0, .slice none 0 0, rfl, Nat.le_refl _, rfl, rfl, by rw [HTS.out]; rfl, Nat.le_refl _, B0.out, R0.out, World.ownsRow_nil _ _ _ _⟩
  case round =>
    obtain ⟨us, vs, k, s, v, hus, hku, rfl, rfl, hgo, hps, hbe, hrd, hop⟩ := hrel
    have hl : ts.length = us.length + vs.length + 1 := by rw [HTS.out, hus]; simp; omega
    have hlt : (us.length : Int) < (ts.length : Int) := by omega
    have ip : (0 : Int) ≤ (us.length : Int) := by omega
    have kp : (0 : Int) ≤ (k : Int) := by omega
    have ku : (k : Int) ≤ (us.length : Int) := by omega
    have uc : (us.length : Int) ≤ (cap : Int) := by omega
    have kc : ¬ (cap = k) := by omega
    have hlm : us.length ≤ 16777216 := by omega
    have HLL := Nu.hid hl
    clear hl
    have hdl : us.length - k = (us.drop k).length := by simp
    have HDL := Nu.hid hdl
    clear hdl
    have HUS := Nu.hid hus
    have HGO := Nu.hid hgo
    clear hus hgo
    have hnT : T ≠ w.heap.size + 2 := by omega
    have hcur : LineAt (wr) T (k * 4) (us.drop k) := LineAt.drop (vs := vs ++ [⟨3, n, n, 0⟩]) (by have := HT.out.below hbe.bel hT; rw [HTS.out, HUS.out, List.append_assoc] at this; exact this) k
    have HCUR := Nu.hid hcur
    clear hcur
    cases vs with
    | nil =>
      have hta : TokAt wr T (us.length * 4) ⟨3, n, n, 0⟩ := by
        have := (HT.out.below hbe.bel hT) us.length ⟨3, n, n, 0⟩ (by rw [HTS.out, HUS.out]; simp)
        rwa [Nat.zero_add] at this
      obtain ⟨a0, a1, a2, a3⟩ := hta
      dsimp only at a0 a1 a2 a3
      have hTl : T < wr.heap.size := block_lt_of_cell a0
      have hsz := hbe.size
      have q0 : w.heap.size < wr.heap.size := by omega
      have q1 : w.heap.size + 1 < wr.heap.size := by omega
      have q2 : w.heap.size + 1 + 1 < wr.heap.size := by omega
      have q3 : w.heap.size + 1 + 1 + 1 < wr.heap.size := by omega
      have HBE := Nu.hid hbe
      have HRD := Nu.hid hrd
      have HOP := Nu.hid hop
      clear hbe hrd hop
      obtain ⟨⟨r0, r1, r2⟩, ⟨s0, s1, s2⟩, ⟨f0, f1, f2⟩⟩ := HBE.out.cells
      by_cases hke : k = us.length
      · subst hke
        have e0 : us.drop us.length = [] := by simp
        have E0 := Nu.hid e0
        clear e0
        cases hf : Pa.fin s n with
        | error x =>
          have HF := Nu.hid hf
          clear hf
          have jx : (x.1 != 0) = true := by have := Pa.fin_code HF.out; simp; omega
          go_wp2_with ((go_at_call 63; refine (end_err (w.heap.size + 4) (w.heap.size + 2) s v ⟨3, n, n, 0⟩ _ x HF.out (HRD.out.alloc _) (HOP.out.alloc _)).mono ?_; rintro e w3 ⟨rfl, hb3⟩; have hbe3 := (HBE.out.alloc _).below hb3; obtain ⟨⟨r0, r1, r2⟩, ⟨s0, s1, s2⟩, ⟨f0, f1, f2⟩⟩ := hbe3.cells; have HBE3 := Nu.hid hbe3; unfold rejVal; clear hb3 hbe3))
          go_region
          go_wp2
          rw [Exit.noGoto_ret]
          refine bodyPost_ret (v := .tuple #[rawVal 0 (.slice none 0 0), rejVal x]) (by simp [results, Tryd.results45, go_sem, rawVal, rejVal, *]) rfl ⟨?_, .inl ⟨x, ?_, rfl⟩⟩
          · exact ((((((HBE3.out.bel.setCell (by simp; omega) _).setCell (by simp; omega) _).setCell (by simp) _).setCell (by simp) _).setCell (by simp) _).setCell (by simp) _).drew
          · rw [HGO.out, E0.out, List.nil_append, Pa.lns_empty (by simp)]
            exact HF.out
        | ok s' =>
          have HF := Nu.hid hf
          clear hf
          have hs3 := Pa.fin_ok HF.out
          subst hs3
          obtain ⟨ao, vc, rfl, _⟩ := HOP.out.form
          go_wp2_with ((go_at_call 63; refine (end_ok (w.heap.size + 4) (w.heap.size + 2) s' s' _ ⟨3, n, n, 0⟩ _ HF.out (HRD.out.alloc _) (HOP.out.alloc _)).mono ?_; rintro e w3 ⟨rfl, hb3⟩; have hbe3 := (HBE.out.alloc _).below hb3; have hrd3 := (HRD.out.alloc _).below hb3 (by simp; omega); have hop3 := (HOP.out.alloc _).below hb3 (Nat.le_refl _); obtain ⟨⟨r0, r1, r2⟩, ⟨s0, s1, s2⟩, ⟨f0, f1, f2⟩⟩ := hbe3.cells; obtain ⟨d1, d3⟩ := hrd3.two; have HBE3 := Nu.hid hbe3; have HOP3 := Nu.hid hop3; unfold rejVal; clear hb3 hbe3 hrd3 hop3))
          go_region
          go_wp2
          rw [Exit.noGoto_ret]
          refine bodyPost_ret (v := .tuple #[rawVal s'.n (.slice ao s'.pairs.length vc), rejVal (0, 0)]) (by simp [results, Tryd.results45, go_sem, rawVal, rejVal, *]) rfl ⟨?_, .inr ⟨s', _, ?_, rfl, ?_⟩⟩
          · exact ((((((HBE3.out.bel.setCell (by simp; omega) _).setCell (by simp; omega) _).setCell (by simp) _).setCell (by simp) _).setCell (by simp) _).setCell (by simp) _).drew
          · rw [HGO.out, E0.out, List.nil_append, Pa.lns_empty (by simp)]
            exact HF.out
          · exact ((((((((HOP3.out.low (by omega) 0 _).low (by omega) 1 _).low (by omega) 0 _).low (by omega) 1 _).low (by omega) 0 _).low (by omega) 1 _).drew).base (by omega))
      · have hkl : k < us.length := by omega
        have hkl' : (k : Int) < (us.length : Int) := by omega
        have hne : us.drop k ≠ [] := fun h => by have := congrArg List.length h; simp at this; omega
        have hdm : (us.drop k).length ≤ 33554433 := by rw [List.length_drop]; omega
        have kd : 0 < us.length - k := by omega
        have hpos : (0 : Int) < ((us.length - k : Nat) : Int) := by omega
        cases hln : Pa.line s (us.drop k) with
        | error x =>
          have HLN := Nu.hid hln
          clear hln
          have jx : (x.1 != 0) = true := by have := Pa.line_code HLN.out; simp; omega
          go_wp2_with (go_at_call 62; refine (line_err (w.heap.size + 4) (w.heap.size + 2) s v T (k * 4) _ _ (us.drop k) _ x HLN.out (HRD.out.alloc _) (HOP.out.alloc _) (HCUR.out.below ((Below.refl _ _).alloc (Nat.le_refl _) _) hTl) HDL.out hne hdm hnT (by omega) (by omega) (by simp; omega) (by omega)).mono ?_; rintro e w2 ⟨rfl, hk2⟩; have hbe2 := (HBE.out.alloc _).kept hk2 (HOP.out.alloc _); obtain ⟨⟨r0, r1, r2⟩, ⟨s0, s1, s2⟩, ⟨f0, f1, f2⟩⟩ := hbe2.cells; have HBE2 := Nu.hid hbe2; unfold rejVal; clear hk2 hbe2)
          go_region
          go_wp2
          rw [Exit.noGoto_ret]
          refine bodyPost_ret (v := .tuple #[rawVal 0 (.slice none 0 0), rejVal x]) (by simp [results, Tryd.results45, go_sem, rawVal, rejVal, *]) rfl ⟨?_, .inl ⟨x, ?_, rfl⟩⟩
          · exact ((((((HBE2.out.bel.setCell (by simp; omega) _).setCell (by simp; omega) _).setCell (by simp) _).setCell (by simp) _).setCell (by simp) _).setCell (by simp) _).drew
          · rw [HGO.out, List.nil_append, Pa.lns_line (by simp) hne]
            exact Pa.go_error HLN.out
        | ok s' =>
          have HLN := Nu.hid hln
          clear hln
          have hgrow := Pa.line_grows HLN.out
          cases hf : Pa.fin s' n with
          | error x =>
            have HF := Nu.hid hf
            clear hf
            have jx : (x.1 != 0) = true := by have := Pa.fin_code HF.out; simp; omega
            go_wp2_with (first | (go_at_call 62; refine (line_ok (w.heap.size + 4) (w.heap.size + 2) s v T (k * 4) _ _ (us.drop k) _ s' HLN.out (HRD.out.alloc _) (HOP.out.alloc _) (HCUR.out.below ((Below.refl _ _).alloc (Nat.le_refl _) _) hTl) HDL.out hne hdm hnT (by omega) (by omega) (by simp; omega) (by omega)).mono ?_; rintro e w2 ⟨rfl, hk2, v', hrd2, hop2⟩; have hbe2 := (HBE.out.alloc _).kept hk2 (HOP.out.alloc _); obtain ⟨⟨r0, r1, r2⟩, ⟨s0, s1, s2⟩, ⟨f0, f1, f2⟩⟩ := hbe2.cells; obtain ⟨y0, y1, y2, y3, y4⟩ := tok_kept (t := ⟨3, n, n, 0⟩) hsz hk2 HOP.out; have hsz2 := hbe2.size; have HBE2 := Nu.hid hbe2; have HRD2 := Nu.hid hrd2; have HOP2 := Nu.hid hop2; unfold rejVal; clear hk2 hbe2 hrd2 hop2) | (go_at_call 63; refine (end_err (w.heap.size + 4) (w.heap.size + 2) s' v' ⟨3, n, n, 0⟩ _ x HF.out ((HRD2.out.far (by simp) 0 _).far (by simp) 1 _) ((HOP2.out.low (by omega) 0 _).low (by omega) 1 _)).mono ?_; rintro e w3 ⟨rfl, hb3⟩; have hbe3 := HBE2.out.zero.below hb3; obtain ⟨⟨r0, r1, r2⟩, ⟨s0, s1, s2⟩, ⟨f0, f1, f2⟩⟩ := hbe3.cells; have HBE3 := Nu.hid hbe3; unfold rejVal; clear hb3 hbe3))
            go_region
            go_wp2
            rw [Exit.noGoto_ret]
            refine bodyPost_ret (v := .tuple #[rawVal 0 (.slice none 0 0), rejVal x]) (by simp [results, Tryd.results45, go_sem, rawVal, rejVal, *]) rfl ⟨?_, .inl ⟨x, ?_, rfl⟩⟩
            · exact ((((((HBE3.out.bel.setCell (by simp; omega) _).setCell (by simp; omega) _).setCell (by simp) _).setCell (by simp) _).setCell (by simp) _).setCell (by simp) _).drew
            · rw [HGO.out, List.nil_append, Pa.lns_line (by simp) hne, Pa.go_ok HLN.out]
              exact HF.out
          | ok s3 =>
            have HF := Nu.hid hf
            clear hf
            have hs3 := Pa.fin_ok HF.out
            subst hs3
            go_wp2_with (first | (go_at_call 62; refine (line_ok (w.heap.size + 4) (w.heap.size + 2) s v T (k * 4) _ _ (us.drop k) _ s3 HLN.out (HRD.out.alloc _) (HOP.out.alloc _) (HCUR.out.below ((Below.refl _ _).alloc (Nat.le_refl _) _) hTl) HDL.out hne hdm hnT (by omega) (by omega) (by simp; omega) (by omega)).mono ?_; rintro e w2 ⟨rfl, hk2, v', hrd2, hop2⟩; have hbe2 := (HBE.out.alloc _).kept hk2 (HOP.out.alloc _); obtain ⟨⟨r0, r1, r2⟩, ⟨s0, s1, s2⟩, ⟨f0, f1, f2⟩⟩ := hbe2.cells; obtain ⟨y0, y1, y2, y3, y4⟩ := tok_kept (t := ⟨3, n, n, 0⟩) hsz hk2 HOP.out; have hsz2 := hbe2.size; obtain ⟨ao, vc, rfl, _⟩ := hop2.form; have HBE2 := Nu.hid hbe2; have HRD2 := Nu.hid hrd2; have HOP2 := Nu.hid hop2; unfold rejVal; clear hk2 hbe2 hrd2 hop2) | (go_at_call 63; refine (end_ok (w.heap.size + 4) (w.heap.size + 2) s3 s3 _ ⟨3, n, n, 0⟩ _ HF.out ((HRD2.out.far (by simp) 0 _).far (by simp) 1 _) ((HOP2.out.low (by omega) 0 _).low (by omega) 1 _)).mono ?_; rintro e w3 ⟨rfl, hb3⟩; have hbe3 := HBE2.out.zero.below hb3; have hrd3 := ((HRD2.out.far (by simp) 0 _).far (by simp) 1 _).below hb3 (by simp; omega); have hop3 := ((HOP2.out.low (by omega) 0 _).low (by omega) 1 _).below hb3 (Nat.le_refl _); obtain ⟨⟨r0, r1, r2⟩, ⟨s0, s1, s2⟩, ⟨f0, f1, f2⟩⟩ := hbe3.cells; obtain ⟨d1, d3⟩ := hrd3.two; have HBE3 := Nu.hid hbe3; have HOP3 := Nu.hid hop3; unfold rejVal; clear hb3 hbe3 hrd3 hop3))
            go_region
            go_wp2
            rw [Exit.noGoto_ret]
            refine bodyPost_ret (v := .tuple #[rawVal s3.n (.slice ao s3.pairs.length vc), rejVal (0, 0)]) (by simp [results, Tryd.results45, go_sem, rawVal, rejVal, *]) rfl ⟨?_, .inr ⟨s3, _, ?_, rfl, ?_⟩⟩
            · exact ((((((HBE3.out.bel.setCell (by simp; omega) _).setCell (by simp; omega) _).setCell (by simp) _).setCell (by simp) _).setCell (by simp) _).setCell (by simp) _).drew
            · rw [HGO.out, List.nil_append, Pa.lns_line (by simp) hne, Pa.go_ok HLN.out]
              exact HF.out
            · exact ((((((((HOP3.out.low (by omega) 0 _).low (by omega) 1 _).low (by omega) 0 _).low (by omega) 1 _).low (by omega) 0 _).low (by omega) 1 _).drew).base (by omega))
    | cons t vs =>
      have hta : TokAt wr T (us.length * 4) t := by
        have := (HT.out.below hbe.bel hT) us.length t (by rw [HTS.out, HUS.out]; simp)
        rwa [Nat.zero_add] at this
      obtain ⟨a0, a1, a2, a3⟩ := hta
      have hTl : T < wr.heap.size := block_lt_of_cell a0
      have hsz := hbe.size
      have q0 : w.heap.size < wr.heap.size := by omega
      have q1 : w.heap.size + 1 < wr.heap.size := by omega
      have q2 : w.heap.size + 1 + 1 < wr.heap.size := by omega
      have q3 : w.heap.size + 1 + 1 + 1 < wr.heap.size := by omega
      have hkd := HK.out t (by rw [HUS.out]; simp)
      have HBE := Nu.hid hbe
      have HRD := Nu.hid hrd
      have HOP := Nu.hid hop
      clear hbe hrd hop
      by_cases h1 : t.kind = 1
      · have j1 : (t.kind == 1) = true := by simp [h1]
        have H1 := Nu.hid h1
        clear hkd h1
        go_wp2_with fail
        go_roundw
        case rel =>
          refine ⟨us ++ [t], vs, k, s, v, by rw [HUS.out]; simp, by rw [List.length_append]; omega, by simp, rfl, ?_, by rw [List.length_append]; omega, HBE.out.alloc _, HRD.out.alloc _, HOP.out.alloc _⟩
          rw [HGO.out, List.cons_append, Pa.lns_num H1.out, List.drop_append_of_le_length hku]
        case measure => (have := HLL.out; simp [intOf]; omega)
      · have j1 : (t.kind == 1) = false := by simp [h1]
        have j3 : (t.kind == 3) = false := by simp; omega
        have H1 := Nu.hid h1
        clear hkd h1
        by_cases hke : k = us.length
        · subst hke
          have e0 : us.drop us.length = [] := by simp
          obtain ⟨⟨r0, r1, r2⟩, ⟨s0, s1, s2⟩, ⟨f0, f1, f2⟩⟩ := HBE.out.cells
          have E0 := Nu.hid e0
          clear e0
          go_wp2_with fail
          go_roundw
          case rel =>
            refine ⟨us ++ [t], vs, us.length + 1, s, v, by rw [HUS.out]; simp, by simp, by simp, by go_num, ?_, by rw [List.length_append]; omega, HBE.out.alloc _, HRD.out.alloc _, HOP.out.alloc _⟩
            rw [HGO.out, E0.out, List.cons_append, Pa.lns_empty H1.out, List.drop_of_length_le (by simp)]
          case measure => (have := HLL.out; simp [intOf]; omega)
        · have hkl : k < us.length := by omega
          have hkl' : (k : Int) < (us.length : Int) := by omega
          have hne : us.drop k ≠ [] := fun h => by have := congrArg List.length h; simp at this; omega
          have hdm : (us.drop k).length ≤ 33554433 := by rw [List.length_drop]; omega
          have kd : 0 < us.length - k := by omega
          have hpos : (0 : Int) < ((us.length - k : Nat) : Int) := by omega
          obtain ⟨⟨r0, r1, r2⟩, ⟨s0, s1, s2⟩, ⟨f0, f1, f2⟩⟩ := HBE.out.cells
          cases hln : Pa.line s (us.drop k) with
          | error x =>
            have HLN := Nu.hid hln
            clear hln
            have jx : (x.1 != 0) = true := by have := Pa.line_code HLN.out; simp; omega
            go_wp2_with (go_at_call 62; refine (line_err (w.heap.size + 4) (w.heap.size + 2) s v T (k * 4) _ _ (us.drop k) _ x HLN.out (HRD.out.alloc _) (HOP.out.alloc _) (HCUR.out.below ((Below.refl _ _).alloc (Nat.le_refl _) _) hTl) HDL.out hne hdm hnT (by omega) (by omega) (by simp; omega) (by omega)).mono ?_; rintro e w2 ⟨rfl, hk2⟩; have hbe2 := (HBE.out.alloc _).kept hk2 (HOP.out.alloc _); obtain ⟨⟨r0, r1, r2⟩, ⟨s0, s1, s2⟩, ⟨f0, f1, f2⟩⟩ := hbe2.cells; have HBE2 := Nu.hid hbe2; unfold rejVal; clear hk2 hbe2)
            go_region
            go_wp2
            rw [Exit.noGoto_ret]
            refine bodyPost_ret (v := .tuple #[rawVal 0 (.slice none 0 0), rejVal x]) (by simp [results, Tryd.results45, go_sem, rawVal, rejVal, *]) rfl ⟨?_, .inl ⟨x, ?_, rfl⟩⟩
            · exact ((((((HBE2.out.bel.setCell (by simp; omega) _).setCell (by simp; omega) _).setCell (by simp) _).setCell (by simp) _).setCell (by simp) _).setCell (by simp) _).drew
            · rw [HGO.out, List.cons_append, Pa.lns_line H1.out hne]
              exact Pa.go_error HLN.out
          | ok s' =>
            have HLN := Nu.hid hln
            clear hln
            go_wp2_with (go_at_call 62; refine (line_ok (w.heap.size + 4) (w.heap.size + 2) s v T (k * 4) _ _ (us.drop k) _ s' HLN.out (HRD.out.alloc _) (HOP.out.alloc _) (HCUR.out.below ((Below.refl _ _).alloc (Nat.le_refl _) _) hTl) HDL.out hne hdm hnT (by omega) (by omega) (by simp; omega) (by omega)).mono ?_; rintro e w2 ⟨rfl, hk2, v', hrd2, hop2⟩; have hbe2 := (HBE.out.alloc _).kept hk2 (HOP.out.alloc _); obtain ⟨⟨r0, r1, r2⟩, ⟨s0, s1, s2⟩, ⟨f0, f1, f2⟩⟩ := hbe2.cells; obtain ⟨y0, y1, y2, y3, y4⟩ := tok_kept hsz hk2 HOP.out; have HBE2 := Nu.hid hbe2; have HRD2 := Nu.hid hrd2; have HOP2 := Nu.hid hop2; unfold rejVal; clear hk2 hbe2 hrd2 hop2)
            go_roundw
            case rel =>
              refine ⟨us ++ [t], vs, us.length + 1, s', v', by rw [HUS.out]; simp, by simp, by simp, by go_num, ?_, by have := Pa.line_grows HLN.out; rw [List.length_append]; simp; omega, HBE2.out.zero, (HRD2.out.far (by simp) 0 _).far (by simp) 1 _, (HOP2.out.low (by omega) 0 _).low (by omega) 1 _⟩
              rw [HGO.out, List.cons_append, Pa.lns_line H1.out hne, Pa.go_ok HLN.out, List.drop_of_length_le (by simp)]
            case measure => (have := HLL.out; simp [intOf]; omega)

end Go.Proofs.YtmgjfakdjponoabDoor
