/-
  An Adj in memory, and that New makes it.
-/
import Derived.Test.YtdhaaodalchpkaaMgJ
import Derived.Test.YtdhaaodalchpkaaMgF
import Derived.Deep.RegionLaw
import Derived.Deep.CutBlock
import Derived.Deep.CutRange
namespace Go.Proofs.Ytdhaaodalchpkaa
open Go.RowKit

/-- What the blocks of an Adj hold. -/
structure AdjHolds (w : World) (B p gd gs gh gp gt n : Nat) (es : List (Int × Int)) : Prop where
  blk : AdjBlk w p gd gs gh gp gt n (2 * es.length)
  deg : ∀ v, v < n → w.cell? ⟨gd, v, none⟩ = some (.int .i64 ((Cs.out es v (2 * es.length)).length : Int))
  start : ∀ v, v < n → w.cell? ⟨gs, v, none⟩ = some (.int .i64 (Cs.st es (2 * es.length) v : Int))
  half : ∀ i, i < 2 * es.length → w.cell? ⟨gh, Cs.pos es (2 * es.length) i, none⟩ = some (.int .i64 (i : Int))
  place : ∀ i, i < 2 * es.length → w.cell? ⟨gp, i, none⟩ = some (.int .i64 (Cs.pos es (2 * es.length) i : Int))
  goes : ∀ i, i < 2 * es.length → w.cell? ⟨gt, i, none⟩ = some (.int .i64 (Cs.to es i : Int))
  bp : B ≤ p
  bd : B ≤ gd
  bs : B ≤ gs
  bh : B ≤ gh
  bq : B ≤ gp
  bt : B ≤ gt
  ld : gd < w.heap.size
  ls : gs < w.heap.size
  lh : gh < w.heap.size
  lq : gp < w.heap.size
  lt : gt < w.heap.size

/-- Block p is an Adj of n vertices and the edges es, laid since block B. -/
def AdjAt (w : World) (B p n : Nat) (es : List (Int × Int)) : Prop := ∃ gd gs gh gp gt, AdjHolds w B p gd gs gh gp gt n es

theorem AdjHolds.same {w w' : World} {B p gd gs gh gp gt n : Nat} {es : List (Int × Int)} (h : AdjHolds w B p gd gs gh gp gt n es) (hs : w.heap.size ≤ w'.heap.size) (hk : ∀ k, B ≤ k → k < w.heap.size → w'.heap[k]? = w.heap[k]?) : AdjHolds w' B p gd gs gh gp gt n es := by
  have hc : ∀ g i, B ≤ g → g < w.heap.size → w'.cell? ⟨g, i, none⟩ = w.cell? ⟨g, i, none⟩ := fun g i h1 h2 => World.cell?_of_block (w := w) (a := ⟨g, i, none⟩) (hk g h1 h2)
  exact ⟨(hk p h.bp h.blk.lt).trans h.blk, fun v hv => (hc _ _ h.bd h.ld).trans (h.deg v hv), fun v hv => (hc _ _ h.bs h.ls).trans (h.start v hv), fun i hi => (hc _ _ h.bh h.lh).trans (h.half i hi), fun i hi => (hc _ _ h.bq h.lq).trans (h.place i hi), fun i hi => (hc _ _ h.bt h.lt).trans (h.goes i hi),
    h.bp, h.bd, h.bs, h.bh, h.bq, h.bt, Nat.lt_of_lt_of_le h.ld hs, Nat.lt_of_lt_of_le h.ls hs, Nat.lt_of_lt_of_le h.lh hs, Nat.lt_of_lt_of_le h.lq hs, Nat.lt_of_lt_of_le h.lt hs⟩

theorem AdjAt.same {w w' : World} {B p n : Nat} {es : List (Int × Int)} (h : AdjAt w B p n es) (hs : w.heap.size ≤ w'.heap.size) (hk : ∀ k, B ≤ k → k < w.heap.size → w'.heap[k]? = w.heap[k]?) : AdjAt w' B p n es := by
  obtain ⟨gd, gs, gh, gp, gt, h⟩ := h
  exact ⟨gd, gs, gh, gp, gt, h.same hs hk⟩

theorem AdjAt.later {w w' : World} {B p n : Nat} {es : List (Int × Int)} (h : AdjAt w B p n es) (hb : Below w.heap.size w w') : AdjAt w' B p n es := h.same hb.size fun k _ h2 => hb.block k h2

theorem AdjAt.lt {w : World} {B p n : Nat} {es : List (Int × Int)} (h : AdjAt w B p n es) : p < w.heap.size := by
  obtain ⟨_, _, _, _, _, h⟩ := h
  exact h.blk.lt

theorem made_in {W : World} {k M : Nat} (h : W.heap.size = k) : IntsIn (W.alloc (.cells (madeCells #[.int .i64 0] M) 3)) k (List.replicate M 0) := by
  subst h
  refine ⟨[], ?_⟩
  rw [heap_alloc_new, List.append_nil, ← made_zeros]

theorem adj_new {W : World} {p gd gs gh gp gt n M : Nat} (h : W.heap.size = p) : AdjBlk (W.alloc (.cells #[.slice (some ⟨gd, 0, none⟩) n n, .slice (some ⟨gs, 0, none⟩) n n, .slice (some ⟨gh, 0, none⟩) M M, .slice (some ⟨gp, 0, none⟩) M M, .slice (some ⟨gt, 0, none⟩) M M] 84)) p gd gs gh gp gt n M := by
  subst h
  exact heap_alloc_new W _

/-- What New has made when the arrays are there. -/
def NewMid (es : List (Int × Int)) (n M gd : Nat) (w wr : World) (p : Nat) : Prop :=
  ∃ gs gh gp gt S, AdjBlk wr p gd gs gh gp gt n M ∧ IntsIn wr gs S ∧ S.length = n ∧ (∀ v, v < n → S[v]? = some (Cs.st es M v : Int)) ∧ IntsIn wr gh (List.replicate M 0) ∧ IntsIn wr gp (List.replicate M 0) ∧ IntsIn wr gt (List.replicate M 0) ∧
    (w.heap.size ≤ p ∧ w.heap.size ≤ gs ∧ w.heap.size ≤ gh ∧ w.heap.size ≤ gp ∧ w.heap.size ≤ gt) ∧ (gh ≠ gp ∧ gh ≠ gt ∧ gp ≠ gt ∧ gs ≠ gh ∧ gs ≠ gp ∧ gs ≠ gt ∧ p ≠ gh ∧ p ≠ gp ∧ p ≠ gt) ∧ Below w.heap.size w wr

def NewPost (n : Int) (es : List (Int × Int)) (w : World) (e : Ending) (w' : World) : Prop :=
  ((∃ m p : Nat, n = (m : Int) ∧ Si.Val n es ∧ e = .returned (.tuple #[.pointer (some ⟨p, 0, none⟩), .int .i64 0]) ∧ AdjAt w' w.heap.size p m es) ∨ (Si.valid n es = false ∧ e = .returned (.tuple #[.pointer none, .int .i64 1]))) ∧ Below w.heap.size w w'

set_option maxRecDepth 100000 in
set_option maxHeartbeats 16000000 in
theorem cnew_any (n : Int) (ao : Option Addr) (cap : Nat) (es : List (Int × Int)) (w : World) (he : EdgesAt w ao es) (hl : es.length ≤ 4611686018427387904) :
    Calls Try.prog 24 #[graphVal n ao es.length cap] w (NewPost n es w) := by
  obtain ⟨i0, hi, hz0, hz1, hz2⟩ := info_parts Try.infoNum
  have hbw0 : Below w.heap.size w (w.alloc (.cells #[.int .i64 n, .slice ao es.length cap] 24)) := (Below.refl _ _).alloc (Nat.le_refl _) _
  have hdg := degrees_any n ao cap es _ (he.later hbw0) hl
  unfold graphVal at hdg ⊢
  have HE := Nu.hid he
  have HBW0 := Nu.hid hbw0
  clear he hbw0
  cases hv : Si.valid n es with
  | false =>
    have HV := Nu.hid hv
    have hdg' := hdg.mono (R' := fun e w' => e = .returned (.tuple #[.slice none 0 0, .int .i64 1]) ∧ Below (w.alloc (.cells #[.int .i64 n, .slice ao es.length cap] 24)).heap.size (w.alloc (.cells #[.int .i64 n, .slice ao es.length cap] 24)) w') (by
      rintro e w' ⟨⟨h, _⟩ | ⟨_, h⟩, hb⟩
      · rw [hv] at h; cases h
      · exact ⟨h, hb⟩)
    have HDG := Nu.hid hdg'
    clear hdg hdg' hv
    go_enter Try.func24, Try.ntmps24
    go_wp2_with (go_at_call 39; refine HDG.out.mono ?_; rintro e w1 ⟨rfl, hb1⟩; refine Hid.out ?_)
    refine Nu.hid ?_
    have HB1 := Nu.hid (HBW0.out.trans (hb1.mono HBW0.out.size))
    clear hb1
    go_wp2
    go_ret2
    exact ⟨.inr ⟨HV.out, rfl⟩, HB1.out⟩
  | true =>
    obtain ⟨m, rfl⟩ : ∃ m : Nat, n = (m : Int) := ⟨n.toNat, by have := (Si.valid_iff.1 hv).lo; omega⟩
    have hdg' := hdg.mono (R' := fun e w' => ∃ gd : Nat, e = .returned (.tuple #[.slice (some ⟨gd, 0, none⟩) m m, .int .i64 0]) ∧ (w.heap.size < gd ∧ IntsBlk w' gd (Si.degs m es)) ∧ Below (w.alloc (.cells #[.int .i64 m, .slice ao es.length cap] 24)).heap.size (w.alloc (.cells #[.int .i64 m, .slice ao es.length cap] 24)) w') (by
      rintro e w' ⟨⟨_, g, m', h1, h2, h3, h4⟩ | ⟨h, _⟩, hb⟩
      · obtain rfl : m = m' := by omega
        exact ⟨g, h2, ⟨by rw [World.size_alloc] at h3; omega, h4⟩, hb⟩
      · rw [hv] at h; cases h)
    have HDG := Nu.hid hdg'
    have HV := Nu.hid hv
    clear hdg hdg' hv
    go_enter Try.func24, Try.ntmps24
    go_wp2_with (go_at_call 39; refine HDG.out.mono ?_; rintro e w1 ⟨gd, rfl, hgi, hb1⟩; refine Hid.out ?_)
    refine Nu.hid ?_
    have HB1 := Nu.hid (HBW0.out.trans (hb1.mono HBW0.out.size))
    have hG : w1.heap[w.heap.size]? = some (.cells #[.int .i64 m, .slice ao es.length cap] 24 (0, 0)) := (hb1.block _ (by simp)).trans (heap_alloc_new w _)
    have hsw := hb1.size
    rw [World.size_alloc] at hsw
    obtain ⟨hgd, hib⟩ := hgi
    have hv := HV.out
    clear hb1 HDG
    have hval := Si.valid_iff.1 hv
    have hfew := hval.few
    have hhi := hval.hi
    obtain ⟨M, hM⟩ : ∃ M, M = 2 * es.length := ⟨_, rfl⟩
    have hM2 : M ≤ 8388608 := by omega
    have hmi : (M : Int) = 2 * (es.length : Int) := by omega
    have hlt : ∀ i, i < M → Cs.fr es i < m := fun i hi => (Cs.half_lt hval (by omega)).1
    have hdl := Si.degs_length m es
    rw [Int.toNat_natCast] at hdl
    have hdo : ∀ v, v < m → (Si.degs m es)[v]? = some ((Cs.out es v M).length : Int) := fun v hvm => by
      have := Cs.degs_out hval es.length (Nat.le_refl _) v hvm
      rw [List.take_length, ← hM] at this
      exact this
    have hst := fun W hW => starts_any es gd m M (Si.degs m es) W hW hdl (by omega) hM2 hdo hlt
    have hmk : ∀ W, (Instr.makeSlice 36 (.int .i64 (2 * (es.length : Int))) (.int .i64 (2 * (es.length : Int)))).run Try.prog W = .ok (.slice (some ⟨W.heap.size, 0, none⟩) M M) (W.alloc (.cells (madeCells #[.int .i64 0] M) 3)) := fun W => by
      have := run_make (P := Try.prog) W 36 3 i0 (.int .i64 0) Try.underlying36 hi hz0 .i64 .i64 (2 * (es.length : Int)) (2 * (es.length : Int)) (by omega) (Int.le_refl _) (by rw [hz2]; omega) (by omega)
      rw [this, hz1, ← hmi]
      simp [Value.cells]
    have HST := Nu.hid hst
    have HVAL := Nu.hid hval
    have HLT := Nu.hid hlt
    have HM := Nu.hid hM
    have HDO := Nu.hid hdo
    have HIB := Nu.hid hib.ins
    obtain ⟨g0, g1, -⟩ := pair_cells hG
    have HG := Nu.hid hG
    clear hst hval hlt hM hdo hib hG hv hdl hmi
    go_upto_region 5 with fail
    go_cut [7] from 20 to 31 (fun x wr => ∃ p : Nat, x = .pointer (some ⟨p, 0, none⟩) ∧ NewMid es m M gd w1 wr p)
    case first =>
      go_wp2_with fail
      go_region_with (go_at_call 40; refine (HST.out _ (by first | exact HIB.out.drew | exact (HIB.out.drew.alloc _) | exact (HIB.out.drew.alloc _).alloc _ | exact ((HIB.out.drew.alloc _).alloc _).alloc _)).mono ?_; rintro e w2 ⟨gs, S, rfl, q1, q2, q3, q4, q5, hb2⟩)
      all_goals go_wp2_with fail
      all_goals go_meet
      all_goals
        have hz := hb2.size
        have q1' := q1
        simp at hz q1'
        refine ⟨_, rfl, _, _, _, _, S, adj_new (by simp), ?_, q4, q5, ?_, ?_, ?_, ?_, ?_, ?_⟩
        · repeat (first | exact q3 | refine IntsIn.alloc ?_ _)
        · repeat (first | (refine made_in ?_; simp; done) | refine IntsIn.later ?_ hb2 | refine IntsIn.alloc ?_ _)
        · repeat (first | (refine made_in ?_; simp; done) | refine IntsIn.later ?_ hb2 | refine IntsIn.alloc ?_ _)
        · repeat (first | (refine made_in ?_; simp; done) | refine IntsIn.later ?_ hb2 | refine IntsIn.alloc ?_ _)
        · refine ⟨?_, ?_, ?_, ?_, ?_⟩ <;> omega
        · refine ⟨?_, ?_, ?_, ?_, ?_, ?_, ?_, ?_, ?_⟩ <;> omega
        · repeat (first | exact Below.refl _ _ | refine Below.drew ?_ | refine Below.alloc ?_ (by first | omega | (simp; done) | (simp; omega)) _ | refine Below.trans ?_ (hb2.mono (by first | omega | (simp; done) | (simp; omega))))
    case rest =>
      obtain ⟨p, rfl, gs, gh, gp, gt, S, hA, hS, lS, sS, iH, iP, iT, ⟨b1, b2, b3, b4, b5⟩, ⟨d1, d2, d3, d4, d5, d6, d7, d8, d9⟩, hbw⟩ := hcut
      have hb1 := HB1.out.size
      have hfl := fill_any es ao cap p gd gs gh gp gt m M S _ _ _ w wc HVAL.out HM.out HE.out (HB1.out.trans (hbw.mono HB1.out.size)) hA hS iH iP iT lS sS (by simp) (by simp) (by simp) (by omega) (by omega) (by omega) d7 d8 d9 d1 d2 d3
      have HFL := Nu.hid hfl
      have k1 := (hbw.cell (p := ⟨w.heap.size, 1, none⟩) (by show w.heap.size < _; omega)).trans g1
      have HEND : Hid (∀ e w3, FillPost es m M gh gp gt wc e w3 → AdjAt w3 w.heap.size p m es ∧ Below w.heap.size w w3) := by
        rintro e w3 ⟨_, ⟨H, Pl, T, F, hf, h1, h2, h3⟩, hwr⟩
        have hgl := HIB.out.lt
        have n1 : ¬ (gd = gh ∨ gd = gp ∨ gd = gt) := by omega
        have n2 : ¬ (gs = gh ∨ gs = gp ∨ gs = gt) := by omega
        have n3 : ¬ (p = gh ∨ p = gp ∨ p = gt) := by omega
        have hd3 := hwr.ints (HIB.out.later hbw) n1
        have hs3 := hwr.ints hS n2
        have hA3 := hA.wrote hwr n3
        have hM := HM.out
        subst hM
        refine ⟨⟨gd, gs, gh, gp, gt, hA3, fun v hv => hd3.cell (HDO.out v hv), fun v hv => hs3.cell (sS v hv), fun i hi => h1.cell (hf.hH i hi), fun i hi => h2.cell (hf.hP i hi), fun i hi => h3.cell (hf.hT i hi), by omega, by omega, by omega, by omega, by omega, by omega, hd3.lt, hs3.lt, h1.lt, h2.lt, h3.lt⟩, ?_⟩
        exact (HB1.out.trans (hbw.mono HB1.out.size)).trans (hwr.below (by have := hbw.size; omega) (fun k hk => by omega))
      clear hA hS sS iH iP iT hbw hfl d1 d2 d3 d4 d5 d6 d7 d8 d9
      go_wp2_with (go_at_call 41; refine HFL.out.mono ?_; intro e w3 hpost; obtain ⟨hadj, hbz⟩ := HEND.out e w3 hpost; obtain rfl := hpost.1; have HADJ := Nu.hid hadj; have HBZ := Nu.hid hbz; clear hpost hadj hbz; refine Hid.out ?_)
      refine Nu.hid ?_
      go_wp2
      go_ret2
      exact ⟨.inl ⟨m, p, rfl, HVAL.out, rfl, HADJ.out⟩, HBZ.out⟩

end Go.Proofs.Ytdhaaodalchpkaa
