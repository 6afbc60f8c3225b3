import Derived.Test.YtalfpbalekbinaaGreatMg03
import Derived.Deep.RegionLaw
import Derived.Deep.CutBlock
import Derived.Deep.CutRange
import Derived.Test.YtalfpbalekbinaaGreatMg00
import Derived.BigQuiet
import Derived.Deep.QuietTactic
import Derived.Test.YtalfpbalekbinaaGreatMg01
/-
  An Adj in memory, and that New makes it.
-/
namespace Go.Proofs.YtalfpbalekbinaaGreat
open Go.RowKit

/-- What the blocks of an Adj hold. -/
structure AdjHolds (w : World) (B p gd gs gh gp gt n : Nat) (es : List (Int × Int)) : Prop where
  blk : AdjBlk w p gd gs gh gp gt n (2 * es.length)
  deg : ∀ v, v < n → w.cell? ⟨gd, v, none⟩ = some (.int .i64 ((Cs.out es v (2 * es.length)).length : Int))
  start : ∀ v, v < n → w.cell? ⟨gs, v, none⟩ = some (.int .i64 (Cs.st es (2 * es.length) v : Int))
  half : ∀ i, i < 2 * es.length → w.cell? ⟨gh, Cs.pos es (2 * es.length) i, none⟩ = some (.int .i64 (i : Int))
  place : ∀ i, i < 2 * es.length → w.cell? ⟨gp, i, none⟩ = some (.int .i64 (Cs.pos es (2 * es.length) i : Int))
  goes : ∀ i, i < 2 * es.length → w.cell? ⟨gt, i, none⟩ = some (.int .i64 (Cs.to es i : Int))
  bp : B ≤ p
  bd : B ≤ gd
  bs : B ≤ gs
  bh : B ≤ gh
  bq : B ≤ gp
  bt : B ≤ gt
  ld : gd < w.heap.size
  ls : gs < w.heap.size
  lh : gh < w.heap.size
  lq : gp < w.heap.size
  lt : gt < w.heap.size

/-- Block p is an Adj of n vertices and the edges es, laid since block B. -/
def AdjAt (w : World) (B p n : Nat) (es : List (Int × Int)) : Prop := ∃ gd gs gh gp gt, AdjHolds w B p gd gs gh gp gt n es

theorem AdjHolds.same {w w' : World} {B p gd gs gh gp gt n : Nat} {es : List (Int × Int)} (h : AdjHolds w B p gd gs gh gp gt n es) (hs : w.heap.size ≤ w'.heap.size) (hk : ∀ k, B ≤ k → k < w.heap.size → w'.heap[k]? = w.heap[k]?) : AdjHolds w' B p gd gs gh gp gt n es := by
  have hc : ∀ g i, B ≤ g → g < w.heap.size → w'.cell? ⟨g, i, none⟩ = w.cell? ⟨g, i, none⟩ := fun g i h1 h2 => World.cell?_of_block (w := w) (a := ⟨g, i, none⟩) (hk g h1 h2)
  exact ⟨(hk p h.bp h.blk.lt).trans h.blk, fun v hv => (hc _ _ h.bd h.ld).trans (h.deg v hv), fun v hv => (hc _ _ h.bs h.ls).trans (h.start v hv), fun i hi => (hc _ _ h.bh h.lh).trans (h.half i hi), fun i hi => (hc _ _ h.bq h.lq).trans (h.place i hi), fun i hi => (hc _ _ h.bt h.lt).trans (h.goes i hi),
    h.bp, h.bd, h.bs, h.bh, h.bq, h.bt, Nat.lt_of_lt_of_le h.ld hs, Nat.lt_of_lt_of_le h.ls hs, Nat.lt_of_lt_of_le h.lh hs, Nat.lt_of_lt_of_le h.lq hs, Nat.lt_of_lt_of_le h.lt hs⟩

theorem AdjAt.same {w w' : World} {B p n : Nat} {es : List (Int × Int)} (h : AdjAt w B p n es) (hs : w.heap.size ≤ w'.heap.size) (hk : ∀ k, B ≤ k → k < w.heap.size → w'.heap[k]? = w.heap[k]?) : AdjAt w' B p n es := by
  obtain ⟨gd, gs, gh, gp, gt, h⟩ := h
  exact ⟨gd, gs, gh, gp, gt, h.same hs hk⟩

theorem AdjAt.later {w w' : World} {B p n : Nat} {es : List (Int × Int)} (h : AdjAt w B p n es) (hb : Below w.heap.size w w') : AdjAt w' B p n es := h.same hb.size fun k _ h2 => hb.block k h2

theorem AdjAt.lt {w : World} {B p n : Nat} {es : List (Int × Int)} (h : AdjAt w B p n es) : p < w.heap.size := by
  obtain ⟨_, _, _, _, _, h⟩ := h
  exact h.blk.lt

/-- How often each vertex is an end. -/
theorem Cs.degs_out {n : Nat} {es : List (Int × Int)} (hv : Si.Val n es) : ∀ k, k ≤ es.length → ∀ v, v < n → (Si.degs n (es.take k))[v]? = some ((Cs.out es v (2 * k)).length : Int) := by
  intro k
  induction k with
  | zero => intro _ v hv; simp [Si.degs, Cs.out, hv]
  | succ k ih =>
    intro hk v hvn
    obtain ⟨q, hq⟩ : ∃ q, es[k]? = some q := ⟨_, List.getElem?_eq_getElem (by omega)⟩
    have hok := hv.each k q hq
    unfold Si.ok at hok
    obtain ⟨qu, qv⟩ := q
    dsimp only at hok
    obtain ⟨a, rfl⟩ : ∃ u : Nat, qu = (u : Int) := ⟨qu.toNat, by omega⟩
    obtain ⟨b, rfl⟩ : ∃ v : Nat, qv = (v : Int) := ⟨qv.toNat, by omega⟩
    obtain ⟨e1, -⟩ := Cs.fr_even hq
    obtain ⟨e3, -⟩ := Cs.fr_odd hq
    dsimp only [Int.toNat_natCast] at e1 e3
    have h1 := ih (by omega) a (by omega)
    have h2 := ih (by omega) b (by omega)
    rw [Si.take_snoc hq, Si.degs_snoc]
    have hne : a ≠ b := by omega
    rw [Si.bump_at h1, Si.bump_at (x := ((Cs.out es b (2 * k)).length : Int)) (by rw [List.getElem?_set, if_neg hne]; exact h2)]
    have e : 2 * (k + 1) = 2 * k + 1 + 1 := by omega
    have hl := Si.degs_length n (es.take k)
    rw [e, Cs.out_len_succ, Cs.out_len_succ, e1, e3, List.getElem?_set]
    by_cases hb : b = v
    · subst hb
      rw [if_pos rfl, if_pos (by simp; omega), if_neg hne, if_pos rfl]
      congr 1
    · rw [if_neg hb, if_neg hb, List.getElem?_set]
      by_cases ha : a = v
      · subst ha
        rw [if_pos rfl, if_pos (by omega), if_pos rfl]
        congr 1
      · rw [if_neg ha, if_neg ha, ih (by omega) v hvn]
        rfl

theorem made_in {W : World} {k M : Nat} (h : W.heap.size = k) : IntsIn (W.alloc (.cells (madeCells #[.int .i64 0] M) 3)) k (List.replicate M 0) := by
  subst h
  refine ⟨[], ?_⟩
  rw [heap_alloc_new, List.append_nil, ← made_zeros]

theorem adj_new {W : World} {p gd gs gh gp gt n M : Nat} (h : W.heap.size = p) : AdjBlk (W.alloc (.cells #[.slice (some ⟨gd, 0, none⟩) n n, .slice (some ⟨gs, 0, none⟩) n n, .slice (some ⟨gh, 0, none⟩) M M, .slice (some ⟨gp, 0, none⟩) M M, .slice (some ⟨gt, 0, none⟩) M M] 87)) p gd gs gh gp gt n M := by
  subst h
  exact heap_alloc_new W _

/-- What New has made when the arrays are there. -/
def NewMid (es : List (Int × Int)) (n M gd : Nat) (w wr : World) (p : Nat) : Prop :=
  ∃ gs gh gp gt S, AdjBlk wr p gd gs gh gp gt n M ∧ IntsIn wr gs S ∧ S.length = n ∧ (∀ v, v < n → S[v]? = some (Cs.st es M v : Int)) ∧ IntsIn wr gh (List.replicate M 0) ∧ IntsIn wr gp (List.replicate M 0) ∧ IntsIn wr gt (List.replicate M 0) ∧
    (w.heap.size ≤ p ∧ w.heap.size ≤ gs ∧ w.heap.size ≤ gh ∧ w.heap.size ≤ gp ∧ w.heap.size ≤ gt) ∧ (gh ≠ gp ∧ gh ≠ gt ∧ gp ≠ gt ∧ gs ≠ gh ∧ gs ≠ gp ∧ gs ≠ gt ∧ p ≠ gh ∧ p ≠ gp ∧ p ≠ gt) ∧ Below w.heap.size w wr

def NewPost (n : Int) (es : List (Int × Int)) (w : World) (e : Ending) (w' : World) : Prop :=
  ((∃ m p : Nat, n = (m : Int) ∧ Si.Val n es ∧ e = .returned (.tuple #[.pointer (some ⟨p, 0, none⟩), .int .i64 0]) ∧ AdjAt w' w.heap.size p m es) ∨ (Si.valid n es = false ∧ e = .returned (.tuple #[.pointer none, .int .i64 1]))) ∧ Below w.heap.size w w'

set_option maxRecDepth 100000 in
set_option maxHeartbeats 16000000 in
theorem cnew_any (n : Int) (ao : Option Addr) (cap : Nat) (es : List (Int × Int)) (w : World) (he : EdgesAt w ao es) (hl : es.length ≤ 4611686018427387904) :
    Calls Tryz.prog 29 #[graphVal n ao es.length cap] w (NewPost n es w) := by
  obtain ⟨i0, hi, hz0, hz1, hz2⟩ := info_parts Tryz.infoNum
  have hbw0 : Below w.heap.size w (w.alloc (.cells #[.int .i64 n, .slice ao es.length cap] 24)) := (Below.refl _ _).alloc (Nat.le_refl _) _
  have hdg := degrees_any n ao cap es _ (he.later hbw0) hl
  unfold graphVal at hdg ⊢
  have HE := Nu.hid he
  have HBW0 := Nu.hid hbw0
  clear he hbw0
  cases hv : Si.valid n es with
  | false =>
    have HV := Nu.hid hv
    have hdg' := hdg.mono (R' := fun e w' => e = .returned (.tuple #[.slice none 0 0, .int .i64 1]) ∧ Below (w.alloc (.cells #[.int .i64 n, .slice ao es.length cap] 24)).heap.size (w.alloc (.cells #[.int .i64 n, .slice ao es.length cap] 24)) w') (by
      rintro e w' ⟨⟨h, _⟩ | ⟨_, h⟩, hb⟩
      · rw [hv] at h; cases h
      · exact ⟨h, hb⟩)
    have HDG := Nu.hid hdg'
    clear hdg hdg' hv
    go_enter Tryz.func29, Tryz.ntmps29
    go_wp2_with (go_at_call 47; refine HDG.out.mono ?_; rintro e w1 ⟨rfl, hb1⟩; refine Hid.out ?_)
    refine Nu.hid ?_
    have HB1 := Nu.hid (HBW0.out.trans (hb1.mono HBW0.out.size))
    clear hb1
    go_wp2
    go_ret2
    exact ⟨.inr ⟨HV.out, rfl⟩, HB1.out⟩
  | true =>
    obtain ⟨m, rfl⟩ : ∃ m : Nat, n = (m : Int) := ⟨n.toNat, by have := (Si.valid_iff.1 hv).lo; omega⟩
    have hdg' := hdg.mono (R' := fun e w' => ∃ gd : Nat, e = .returned (.tuple #[.slice (some ⟨gd, 0, none⟩) m m, .int .i64 0]) ∧ (w.heap.size < gd ∧ IntsBlk w' gd (Si.degs m es)) ∧ Below (w.alloc (.cells #[.int .i64 m, .slice ao es.length cap] 24)).heap.size (w.alloc (.cells #[.int .i64 m, .slice ao es.length cap] 24)) w') (by
      rintro e w' ⟨⟨_, g, m', h1, h2, h3, h4⟩ | ⟨h, _⟩, hb⟩
      · obtain rfl : m = m' := by omega
        exact ⟨g, h2, ⟨by rw [World.size_alloc] at h3; omega, h4⟩, hb⟩
      · rw [hv] at h; cases h)
    have HDG := Nu.hid hdg'
    have HV := Nu.hid hv
    clear hdg hdg' hv
    go_enter Tryz.func29, Tryz.ntmps29
    go_wp2_with (go_at_call 47; refine HDG.out.mono ?_; rintro e w1 ⟨gd, rfl, hgi, hb1⟩; refine Hid.out ?_)
    refine Nu.hid ?_
    have HB1 := Nu.hid (HBW0.out.trans (hb1.mono HBW0.out.size))
    have hG : w1.heap[w.heap.size]? = some (.cells #[.int .i64 m, .slice ao es.length cap] 24 (0, 0)) := (hb1.block _ (by simp)).trans (heap_alloc_new w _)
    have hsw := hb1.size
    rw [World.size_alloc] at hsw
    obtain ⟨hgd, hib⟩ := hgi
    have hv := HV.out
    clear hb1 HDG
    have hval := Si.valid_iff.1 hv
    have hfew := hval.few
    have hhi := hval.hi
    obtain ⟨M, hM⟩ : ∃ M, M = 2 * es.length := ⟨_, rfl⟩
    have hM2 : M ≤ 8388608 := by omega
    have hmi : (M : Int) = 2 * (es.length : Int) := by omega
    have hlt : ∀ i, i < M → Cs.fr es i < m := fun i hi => (Cs.half_lt hval (by omega)).1
    have hdl := Si.degs_length m es
    rw [Int.toNat_natCast] at hdl
    have hdo : ∀ v, v < m → (Si.degs m es)[v]? = some ((Cs.out es v M).length : Int) := fun v hvm => by
      have := Cs.degs_out hval es.length (Nat.le_refl _) v hvm
      rw [List.take_length, ← hM] at this
      exact this
    have hst := fun W hW => starts_any es gd m M (Si.degs m es) W hW hdl (by omega) hM2 hdo hlt
    have hmk : ∀ W, (Instr.makeSlice 26 (.int .i64 (2 * (es.length : Int))) (.int .i64 (2 * (es.length : Int)))).run Tryz.prog W = .ok (.slice (some ⟨W.heap.size, 0, none⟩) M M) (W.alloc (.cells (madeCells #[.int .i64 0] M) 3)) := fun W => by
      have := run_make (P := Tryz.prog) W 26 3 i0 (.int .i64 0) Tryz.underlying26 hi hz0 .i64 .i64 (2 * (es.length : Int)) (2 * (es.length : Int)) (by omega) (Int.le_refl _) (by rw [hz2]; omega) (by omega)
      rw [this, hz1, ← hmi]
      simp [Value.cells]
    have HST := Nu.hid hst
    have HVAL := Nu.hid hval
    have HLT := Nu.hid hlt
    have HM := Nu.hid hM
    have HDO := Nu.hid hdo
    have HIB := Nu.hid hib.ins
    obtain ⟨g0, g1, -⟩ := pair_cells hG
    have HG := Nu.hid hG
    clear hst hval hlt hM hdo hib hG hv hdl hmi
    go_upto_region 5 with fail
    go_cut [7] from 20 to 31 (fun x wr => ∃ p : Nat, x = .pointer (some ⟨p, 0, none⟩) ∧ NewMid es m M gd w1 wr p)
    case first =>
      go_wp2_with fail
      go_region_with (go_at_call 48; refine (HST.out _ (by first | exact HIB.out.drew | exact (HIB.out.drew.alloc _) | exact (HIB.out.drew.alloc _).alloc _ | exact ((HIB.out.drew.alloc _).alloc _).alloc _)).mono ?_; rintro e w2 ⟨gs, S, rfl, q1, q2, q3, q4, q5, hb2⟩)
      all_goals go_wp2_with fail
      all_goals go_meet
      all_goals
        have hz := hb2.size
        have q1' := q1
        simp at hz q1'
        refine ⟨_, rfl, _, _, _, _, S, adj_new (by simp), ?_, q4, q5, ?_, ?_, ?_, ?_, ?_, ?_⟩
        · repeat (first | exact q3 | refine IntsIn.alloc ?_ _)
        · repeat (first | (refine made_in ?_; simp; done) | refine IntsIn.later ?_ hb2 | refine IntsIn.alloc ?_ _)
        · repeat (first | (refine made_in ?_; simp; done) | refine IntsIn.later ?_ hb2 | refine IntsIn.alloc ?_ _)
        · repeat (first | (refine made_in ?_; simp; done) | refine IntsIn.later ?_ hb2 | refine IntsIn.alloc ?_ _)
        · refine ⟨?_, ?_, ?_, ?_, ?_⟩ <;> omega
        · refine ⟨?_, ?_, ?_, ?_, ?_, ?_, ?_, ?_, ?_⟩ <;> omega
        · repeat (first | exact Below.refl _ _ | refine Below.drew ?_ | refine Below.alloc ?_ (by first | omega | (simp; done) | (simp; omega)) _ | refine Below.trans ?_ (hb2.mono (by first | omega | (simp; done) | (simp; omega))))
    case rest =>
      obtain ⟨p, rfl, gs, gh, gp, gt, S, hA, hS, lS, sS, iH, iP, iT, ⟨b1, b2, b3, b4, b5⟩, ⟨d1, d2, d3, d4, d5, d6, d7, d8, d9⟩, hbw⟩ := hcut
      have hb1 := HB1.out.size
      have hfl := fill_any es ao cap p gd gs gh gp gt m M S _ _ _ w wc HVAL.out HM.out HE.out (HB1.out.trans (hbw.mono HB1.out.size)) hA hS iH iP iT lS sS (by simp) (by simp) (by simp) (by omega) (by omega) (by omega) d7 d8 d9 d1 d2 d3
      have HFL := Nu.hid hfl
      have k1 := (hbw.cell (p := ⟨w.heap.size, 1, none⟩) (by show w.heap.size < _; omega)).trans g1
      have HEND : Hid (∀ e w3, FillPost es m M gh gp gt wc e w3 → AdjAt w3 w.heap.size p m es ∧ Below w.heap.size w w3) := by
        rintro e w3 ⟨_, ⟨H, Pl, T, F, hf, h1, h2, h3⟩, hwr⟩
        have hgl := HIB.out.lt
        have n1 : ¬ (gd = gh ∨ gd = gp ∨ gd = gt) := by omega
        have n2 : ¬ (gs = gh ∨ gs = gp ∨ gs = gt) := by omega
        have n3 : ¬ (p = gh ∨ p = gp ∨ p = gt) := by omega
        have hd3 := hwr.ints (HIB.out.later hbw) n1
        have hs3 := hwr.ints hS n2
        have hA3 := hA.wrote hwr n3
        have hM := HM.out
        subst hM
        refine ⟨⟨gd, gs, gh, gp, gt, hA3, fun v hv => hd3.cell (HDO.out v hv), fun v hv => hs3.cell (sS v hv), fun i hi => h1.cell (hf.hH i hi), fun i hi => h2.cell (hf.hP i hi), fun i hi => h3.cell (hf.hT i hi), by omega, by omega, by omega, by omega, by omega, by omega, hd3.lt, hs3.lt, h1.lt, h2.lt, h3.lt⟩, ?_⟩
        exact (HB1.out.trans (hbw.mono HB1.out.size)).trans (hwr.below (by have := hbw.size; omega) (fun k hk => by omega))
      clear hA hS sS iH iP iT hbw hfl d1 d2 d3 d4 d5 d6 d7 d8 d9
      go_wp2_with (go_at_call 49; refine HFL.out.mono ?_; intro e w3 hpost; obtain ⟨hadj, hbz⟩ := HEND.out e w3 hpost; obtain rfl := hpost.1; have HADJ := Nu.hid hadj; have HBZ := Nu.hid hbz; clear hpost hadj hbz; refine Hid.out ?_)
      refine Nu.hid ?_
      go_wp2
      go_ret2
      exact ⟨.inl ⟨m, p, rfl, HVAL.out, rfl, HADJ.out⟩, HBZ.out⟩

end Go.Proofs.YtalfpbalekbinaaGreat

/-
  What an Adj answers: N, M, Degree, From, To, First, After; also the nil one.
-/
namespace Go.Proofs.YtalfpbalekbinaaGreat
open Go.RowKit

/-- v is an Adj of n vertices and the edges es: nil for none. -/
def IsAdj (w : World) (v : Value) (n : Nat) (es : List (Int × Int)) : Prop := (v = .pointer none ∧ n = 0 ∧ es = []) ∨ ∃ B p, v = .pointer (some ⟨p, 0, none⟩) ∧ Si.Val n es ∧ AdjAt w B p n es

theorem IsAdj.later {w w' : World} {v : Value} {n : Nat} {es : List (Int × Int)} (h : IsAdj w v n es) (hb : Below w.heap.size w w') : IsAdj w' v n es := by
  rcases h with h | ⟨B, p, h1, h2, h3⟩
  · exact .inl h
  · exact .inr ⟨B, p, h1, h2, h3.later hb⟩

theorem IsAdj.bounds {w : World} {v : Value} {n : Nat} {es : List (Int × Int)} (h : IsAdj w v n es) : n ≤ 1048576 ∧ es.length ≤ 4194304 := by
  rcases h with ⟨_, rfl, rfl⟩ | ⟨B, p, _, h2, _⟩
  · simp
  · have := h2.hi
    have := h2.few
    omega

set_option maxRecDepth 100000 in
set_option maxHeartbeats 1000000 in
theorem aN_any (v : Value) (n : Nat) (es : List (Int × Int)) (w : World) (h : IsAdj w v n es) : Calls Tryz.prog 34 #[v] w fun e w' => e = .returned (.int .i64 (n : Int)) ∧ w' = w := by
  rcases h with ⟨rfl, rfl, rfl⟩ | ⟨B, p, rfl, hv, gd, gs, gh, gp, gt, h⟩
  · go_enter Tryz.func34, Tryz.ntmps34
    go_wp2
    go_ret
    exact ⟨rfl, rfl⟩
  · have c0 := h.blk.c0
    clear h
    go_enter Tryz.func34, Tryz.ntmps34
    go_wp2
    go_ret
    exact ⟨rfl, rfl⟩

set_option maxRecDepth 100000 in
set_option maxHeartbeats 1000000 in
theorem aM_any (v : Value) (n : Nat) (es : List (Int × Int)) (w : World) (h : IsAdj w v n es) : Calls Tryz.prog 56 #[v] w fun e w' => e = .returned (.int .i64 (es.length : Int)) ∧ w' = w := by
  have hb := h.bounds
  rcases h with ⟨rfl, rfl, rfl⟩ | ⟨B, p, rfl, hv, gd, gs, gh, gp, gt, h⟩
  · go_enter Tryz.func56, Tryz.ntmps56
    go_wp2
    go_ret
    exact ⟨rfl, rfl⟩
  · have c4 := h.blk.c4
    have hdv : (2 * (es.length : Int)).tdiv 2 = es.length := by rw [Int.tdiv_eq_ediv_of_nonneg (by omega)]; omega
    clear h
    go_enter Tryz.func56, Tryz.ntmps56
    go_wp2
    go_ret
    exact ⟨rfl, rfl⟩

set_option maxRecDepth 100000 in
set_option maxHeartbeats 1000000 in
theorem hasVertex_any (v : Value) (n : Nat) (es : List (Int × Int)) (x : Int) (w : World) (h : IsAdj w v n es) : Calls Tryz.prog 97 #[v, .int .i64 x] w fun e w' => e = .returned (.bool (decide (0 ≤ x ∧ x < (n : Int)))) ∧ w' = w := by
  have HN := Nu.hid (aN_any v n es w h)
  clear h
  by_cases h0 : 0 ≤ x
  · have hd : decide (0 ≤ x ∧ x < (n : Int)) = decide (x < (n : Int)) := by simp [h0]
    rw [hd]
    go_enter Tryz.func97, Tryz.ntmps97
    go_wp2_with (go_at_call 34; refine HN.out.mono ?_; rintro e w1 ⟨rfl, rfl⟩)
    go_ret
    exact ⟨rfl, rfl⟩
  · have hd : decide (0 ≤ x ∧ x < (n : Int)) = false := by simp [h0]
    rw [hd]
    go_enter Tryz.func97, Tryz.ntmps97
    go_wp2_with (go_at_call 34; refine HN.out.mono ?_; rintro e w1 ⟨rfl, rfl⟩)
    go_ret
    exact ⟨rfl, rfl⟩

set_option maxRecDepth 100000 in
set_option maxHeartbeats 1000000 in
theorem hasHalf_any (v : Value) (n : Nat) (es : List (Int × Int)) (x : Int) (w : World) (h : IsAdj w v n es) : Calls Tryz.prog 64 #[v, .int .i64 x] w fun e w' => e = .returned (.bool (decide (0 ≤ x ∧ x < 2 * (es.length : Int)))) ∧ w' = w := by
  have HN := Nu.hid (aM_any v n es w h)
  have hb := h.bounds
  clear h
  by_cases h0 : 0 ≤ x
  · have hd : decide (0 ≤ x ∧ x < 2 * (es.length : Int)) = decide (x < 2 * (es.length : Int)) := by simp [h0]
    rw [hd]
    go_enter Tryz.func64, Tryz.ntmps64
    go_wp2_with (go_at_call 56; refine HN.out.mono ?_; rintro e w1 ⟨rfl, rfl⟩)
    go_ret
    exact ⟨rfl, rfl⟩
  · have hd : decide (0 ≤ x ∧ x < 2 * (es.length : Int)) = false := by simp [h0]
    rw [hd]
    go_enter Tryz.func64, Tryz.ntmps64
    go_wp2_with (go_at_call 56; refine HN.out.mono ?_; rintro e w1 ⟨rfl, rfl⟩)
    go_ret
    exact ⟨rfl, rfl⟩

/-- What leaves a number, as ints. -/
def Cs.outZ (n : Nat) (es : List (Int × Int)) (x : Int) : List Int := (Cs.outI n es x).map fun i : Nat => (i : Int)

theorem Cs.outZ_len {n : Nat} {es : List (Int × Int)} {x : Int} : (Cs.outZ n es x).length = (Cs.outI n es x).length := by simp [Cs.outZ]

/-- What From answers. -/
def Cs.frI (es : List (Int × Int)) (x : Int) : Int := if 0 ≤ x ∧ x < 2 * (es.length : Int) then (Cs.fr es x.toNat : Int) else -1
/-- What To answers. -/
def Cs.toI (es : List (Int × Int)) (x : Int) : Int := if 0 ≤ x ∧ x < 2 * (es.length : Int) then (Cs.to es x.toNat : Int) else -1

theorem Cs.frI_in {es : List (Int × Int)} {i : Nat} (h : i < 2 * es.length) : Cs.frI es i = (Cs.fr es i : Int) := by
  unfold Cs.frI
  rw [if_pos (by omega)]
  simp
theorem Cs.toI_in {es : List (Int × Int)} {i : Nat} (h : i < 2 * es.length) : Cs.toI es i = (Cs.to es i : Int) := by
  unfold Cs.toI
  rw [if_pos (by omega)]
  simp
theorem Cs.frI_no {es : List (Int × Int)} {x : Int} (h : ¬ (0 ≤ x ∧ x < 2 * (es.length : Int))) : Cs.frI es x = -1 := by unfold Cs.frI; rw [if_neg h]
theorem Cs.toI_no {es : List (Int × Int)} {x : Int} (h : ¬ (0 ≤ x ∧ x < 2 * (es.length : Int))) : Cs.toI es x = -1 := by unfold Cs.toI; rw [if_neg h]

set_option maxRecDepth 100000 in
set_option maxHeartbeats 1000000 in
theorem to_any (v : Value) (n : Nat) (es : List (Int × Int)) (x : Int) (w : World) (h : IsAdj w v n es) : Calls Tryz.prog 46 #[v, .int .i64 x] w fun e w' => e = .returned (.int .i64 (Cs.toI es x)) ∧ w' = w := by
  have HV := Nu.hid (hasHalf_any v n es x w h)
  by_cases hx : 0 ≤ x ∧ x < 2 * (es.length : Int)
  · rw [decide_eq_true hx] at HV
    rcases h with ⟨rfl, rfl, rfl⟩ | ⟨B, p, rfl, hv, gd, gs, gh, gp, gt, h⟩
    · simp at hx; omega
    · obtain ⟨u, rfl⟩ : ∃ u : Nat, x = (u : Int) := ⟨x.toNat, by omega⟩
      obtain ⟨x0, x1⟩ := hx
      have c0 := h.blk.c4
      have d0 := h.goes u (by omega)
      rw [Cs.toI_in (by omega)]
      clear h hv
      go_enter Tryz.func46, Tryz.ntmps46
      go_wp2_with (go_at_call 64; refine HV.out.mono ?_; rintro e w1 ⟨rfl, rfl⟩)
      go_ret
      exact ⟨rfl, rfl⟩
  · rw [decide_eq_false hx] at HV
    rw [Cs.toI_no hx]
    clear h hx
    go_enter Tryz.func46, Tryz.ntmps46
    go_wp2_with (go_at_call 64; refine HV.out.mono ?_; rintro e w1 ⟨rfl, rfl⟩)
    go_ret
    exact ⟨rfl, rfl⟩

theorem Cs.nat_xor_one (u : Nat) : u ^^^ 1 = Cs.twin u := by
  have h1 : (u ^^^ 1) / 2 = u / 2 := by rw [Nat.xor_div_two]; simp
  have h2 : (u ^^^ 1) % 2 = (u + 1) % 2 := by
    have := Nat.xor_mod_two_pow (a := u) (b := 1) (n := 1)
    simp at this
    rw [this]
    rcases Nat.mod_two_eq_zero_or_one u with h | h <;> rw [h] <;> simp <;> omega
  unfold Cs.twin
  split <;> omega

theorem Cs.xor_twin (u : Nat) (hu : u < 4611686018427387904) : bits .xor .i64 (u : Int) 1 = (Cs.twin u : Int) := by
  have h1 : (BitVec.ofInt 64 (u : Int)).toNat = u := by
    rw [BitVec.ofInt_natCast, BitVec.toNat_ofNat]; exact Nat.mod_eq_of_lt (by omega)
  have h2 : (BitVec.ofInt 64 (1 : Int)).toNat = 1 := by decide
  show IntKind.i64.wrap ((BitVec.ofInt 64 (u : Int) ^^^ BitVec.ofInt 64 (1 : Int)).toNat : Int) = _
  have h3 := Cs.nat_xor_one u
  have h4 : Cs.twin u ≤ u + 1 := by unfold Cs.twin; split <;> omega
  rw [BitVec.toNat_xor, h1, h2, IntKind.wrap_i64, h3]
  omega

set_option maxRecDepth 100000 in
set_option maxHeartbeats 1000000 in
theorem from_any (v : Value) (n : Nat) (es : List (Int × Int)) (x : Int) (w : World) (h : IsAdj w v n es) : Calls Tryz.prog 45 #[v, .int .i64 x] w fun e w' => e = .returned (.int .i64 (Cs.frI es x)) ∧ w' = w := by
  have HV := Nu.hid (hasHalf_any v n es x w h)
  by_cases hx : 0 ≤ x ∧ x < 2 * (es.length : Int)
  · rw [decide_eq_true hx] at HV
    rcases h with ⟨rfl, rfl, rfl⟩ | ⟨B, p, rfl, hv, gd, gs, gh, gp, gt, h⟩
    · simp at hx; omega
    · obtain ⟨u, rfl⟩ : ∃ u : Nat, x = (u : Int) := ⟨x.toNat, by omega⟩
      obtain ⟨x0, x1⟩ := hx
      have ht := Cs.twin_lt (i := u) (m := es.length) (by omega)
      have c0 := h.blk.c4
      have hfew := hv.few
      have hxt := Cs.xor_twin u (by omega)
      have ht0 : (0 : Int) ≤ (Cs.twin u : Int) := by omega
      have ht1 : (Cs.twin u : Int) < 2 * (es.length : Int) := by omega
      have d0 := h.goes (Cs.twin u) ht
      rw [Cs.frI_in (by omega)]
      rw [Cs.to_twin] at d0
      clear h hv
      go_enter Tryz.func45, Tryz.ntmps45
      go_wp2_with (go_at_call 64; refine HV.out.mono ?_; rintro e w1 ⟨rfl, rfl⟩)
      go_ret
      exact ⟨rfl, rfl⟩
  · rw [decide_eq_false hx] at HV
    rw [Cs.frI_no hx]
    clear h hx
    go_enter Tryz.func45, Tryz.ntmps45
    go_wp2_with (go_at_call 64; refine HV.out.mono ?_; rintro e w1 ⟨rfl, rfl⟩)
    go_ret
    exact ⟨rfl, rfl⟩

/-- w0: an earlier world, in which the Adj lay already. -/
def LeavPost (n : Nat) (es : List (Int × Int)) (x : Int) (w0 w : World) (e : Ending) (w' : World) : Prop :=
  ∃ ao cap, e = .returned (.slice ao (Cs.outZ n es x).length cap) ∧ IntsAt w0 ao (Cs.outZ n es x) ∧ ∃ k, w' = w.drewN k

set_option maxRecDepth 100000 in
set_option maxHeartbeats 4000000 in
theorem leaving_any (v : Value) (n : Nat) (es : List (Int × Int)) (x : Int) (w0 w : World) (h0 : IsAdj w0 v n es) (hb : Below w0.heap.size w0 w) : Calls Tryz.prog 80 #[v, .int .i64 x] w (LeavPost n es x w0 w) := by
  have HV := Nu.hid (hasVertex_any v n es x w (h0.later hb))
  by_cases hx : 0 ≤ x ∧ x < (n : Int)
  · rw [decide_eq_true hx] at HV
    rcases h0 with ⟨rfl, rfl, rfl⟩ | ⟨B, p, rfl, hv, gd, gs, gh, gp, gt, h0⟩
    · omega
    · obtain ⟨u, rfl⟩ : ∃ u : Nat, x = (u : Int) := ⟨x.toNat, by omega⟩
      obtain ⟨x0, x1⟩ := hx
      have hul : u < n := by omega
      have h := h0.same hb.size fun k _ h2 => hb.block k h2
      have c0 := h.blk.c0
      have c1 := h.blk.c1
      have c2 := h.blk.c2
      have d0 := h.deg u hul
      have d1 := h.start u hul
      have hlt : ∀ i, i < 2 * es.length → Cs.fr es i < n := fun i hi => (Cs.half_lt hv hi).1
      have hle := Cs.st_le hlt hul
      have hfew := hv.few
      have hhalf := h0.half
      have hcell : ∀ (j : Nat) (z : Int), (Cs.outZ n es u)[j]? = some z → w0.cell? ⟨gh, Cs.st es (2 * es.length) u + j, none⟩ = some (.int .i64 z) := fun j z hj => by
        unfold Cs.outZ at hj
        rw [List.getElem?_map, Cs.outI_in hul] at hj
        obtain ⟨i, hi, rfl⟩ := Option.map_eq_some_iff.1 hj
        obtain ⟨h1, h2, h3⟩ := Cs.out_of hi
        have := hhalf i h1
        unfold Cs.pos at this
        rw [h2, h3] at this
        exact this
      have hll : (Cs.outZ n es u).length = (Cs.out es u (2 * es.length)).length := by rw [Cs.outZ_len, Cs.outI_in hul]
      have HC := Nu.hid hcell
      have HLL := Nu.hid hll
      obtain ⟨s, hs⟩ : ∃ s, Cs.st es (2 * es.length) u = s := ⟨_, rfl⟩
      obtain ⟨d, hd⟩ : ∃ d, (Cs.out es u (2 * es.length)).length = d := ⟨_, rfl⟩
      rw [hs] at d1 hle HC
      rw [hd] at d0 hle HLL
      have s0 : (0 : Int) ≤ (s : Int) := by omega
      have s1 : (s : Int) ≤ 2 * (es.length : Int) := by omega
      have s2 : (0 : Int) ≤ (d : Int) := by omega
      have s3 : (d : Int) ≤ 2 * (es.length : Int) - (s : Int) := by omega
      clear h h0 hb hv hlt hhalf hcell hll hs hd
      go_enter Tryz.func80, Tryz.ntmps80
      go_wp2_with (go_at_call 97; refine HV.out.mono ?_; rintro e w1 ⟨rfl, rfl⟩)
      go_quiet (fail)
      obtain ⟨A, hA⟩ : ∃ A : Option Addr, (if 2 * es.length = s then some ⟨gh, 0, none⟩ else some ⟨gh, s, none⟩) = A := ⟨_, rfl⟩
      rw [hA]
      have HA := Nu.hid hA
      clear hA
      go_wp2
      go_ret
      refine ⟨A, _, by rw [HLL.out]; rfl, fun j z hj => ?_, nq, rfl⟩
      have hjl := (List.getElem?_eq_some_iff.1 hj).1
      rw [HLL.out] at hjl
      have := HA.out
      rw [if_neg (by omega)] at this
      exact ⟨gh, s, this.symm, HC.out j z hj⟩
  · rw [decide_eq_false hx] at HV
    have ho : Cs.outZ n es x = [] := by unfold Cs.outZ; rw [Cs.outI_no hx]; rfl
    have HO := Nu.hid ho
    clear h0 hb hx ho
    go_enter Tryz.func80, Tryz.ntmps80
    go_wp2_with (go_at_call 97; refine HV.out.mono ?_; rintro e w1 ⟨rfl, rfl⟩)
    go_ret
    refine ⟨none, 0, by rw [HO.out]; rfl, by rw [HO.out]; exact IntsAt.nil _ _, 0, rfl⟩

end Go.Proofs.YtalfpbalekbinaaGreat

/-
  Depth-first forests, pure: what is asked of one; ways from a vertex up to its root; who is above whom.
-/
namespace Go.Proofs.YtalfpbalekbinaaGreat
namespace Df

/-- A number of a list, by place. -/
abbrev at_ (l : List Int) (i : Nat) : Int := l.getD i (-1)

/-- The parent of a vertex; -1 of a root. -/
def up (es : List (Int × Int)) (s : St) (v : Int) : Int := Cs.frI es (at_ s.par v.toNat)

/-- The lists are as long as they should be. -/
def Lens (n : Nat) (es : List (Int × Int)) (s : St) : Prop := s.par.length = n ∧ s.hei.length = n ∧ s.ord.length = n ∧ s.ori.length = es.length

/-- Each vertex once. -/
def Once (n : Nat) (s : St) (k : Nat) : Prop := ∀ i, i < k → (0 ≤ at_ s.ord i ∧ at_ s.ord i < (n : Int)) ∧ ∀ j, j < i → at_ s.ord j ≠ at_ s.ord i

/-- A vertex has a parent and a height as it should. -/
def Hang1 (es : List (Int × Int)) (s : St) (v : Nat) : Prop :=
  (at_ s.par v = -1 ∧ at_ s.hei v = 0) ∨ ∃ h : Nat, h < 2 * es.length ∧ at_ s.par v = (h : Int) ∧ Cs.to es h = v ∧ at_ s.ori (h / 2) = (h : Int) ∧ at_ s.hei v = IntKind.i64.wrap (at_ s.hei (Cs.fr es h) + 1)
def Hang (n : Nat) (es : List (Int × Int)) (s : St) : Prop := ∀ v, v < n → Hang1 es s v

/-- What is taken from the way, up to p; those that are taken end at i. -/
def leave (p i : Int) : List Int → List Int → List Int × List Int
  | [], B => ([], B)
  | x :: W, B => if x = p then (x :: W, B) else leave p i W (B.set x.toNat i)

/-- The way and where the vertices end, when k have been come by; none: a parent isn't on the way. -/
def side (n : Nat) (es : List (Int × Int)) (s : St) : Nat → Option (List Int × List Int)
  | 0 => some ([], List.replicate n 0)
  | k + 1 => (side n es s k).bind fun q =>
    if up es s (at_ s.ord k) ≠ -1 ∧ (leave (up es s (at_ s.ord k)) k q.1 q.2).1 = [] then none
    else some (at_ s.ord k :: (leave (up es s (at_ s.ord k)) k q.1 q.2).1, (leave (up es s (at_ s.ord k)) k q.1 q.2).2)

/-- A way from its first vertex up to a root. -/
def IsWay (es : List (Int × Int)) (s : St) : List Int → Prop
  | [] => True
  | v :: W => 0 ≤ v ∧ up es s v = W.headD (-1) ∧ IsWay es s W

/-- u is above v. -/
def Anc (es : List (Int × Int)) (s : St) (u v : Int) : Prop := ∃ W, IsWay es s (v :: W) ∧ u ∈ v :: W

theorem IsWay.unique {es : List (Int × Int)} {s : St} : ∀ {W W' : List Int}, IsWay es s W → IsWay es s W' → W.headD (-1) = W'.headD (-1) → W = W'
  | [], [], _, _, _ => rfl
  | [], v :: W', _, h, e => by
    have := h.1
    simp at e
    omega
  | v :: W, [], h, _, e => by
    have := h.1
    simp at e
    omega
  | v :: W, v' :: W', h, h', e => by
    have e1 : v = v' := by simpa using e
    subst e1
    rw [IsWay.unique h.2.2 h'.2.2 (h.2.1.symm.trans h'.2.1)]

theorem Anc.iff {es : List (Int × Int)} {s : St} {u v : Int} {W : List Int} (h : IsWay es s (v :: W)) : Anc es s u v ↔ u ∈ v :: W := by
  constructor
  · rintro ⟨W', h', hu⟩
    have := IsWay.unique h h' rfl
    injection this with _ e
    rw [e]
    exact hu
  · exact fun hu => ⟨W, h, hu⟩

/-- What leave leaves is the way from p on. -/
theorem leave_way {p i : Int} : ∀ (W B : List Int), ∃ X, W = X ++ (leave p i W B).1 ∧ p ∉ X ∧ ((leave p i W B).1 = [] ∨ (leave p i W B).1.headD (-1) = p)
  | [], B => ⟨[], rfl, by simp, .inl rfl⟩
  | x :: W, B => by
    unfold leave
    by_cases h : x = p
    · rw [if_pos h]
      exact ⟨[], rfl, by simp, .inr (by simpa using h)⟩
    · rw [if_neg h]
      obtain ⟨X, h1, h2, h3⟩ := leave_way (p := p) (i := i) W (B.set x.toNat i)
      refine ⟨x :: X, by rw [List.cons_append, ← h1], ?_, h3⟩
      simp only [List.mem_cons, not_or]
      exact ⟨fun e => h e.symm, h2⟩

theorem leave_len {p i : Int} : ∀ (W B : List Int), (leave p i W B).2.length = B.length
  | [], B => rfl
  | x :: W, B => by
    unfold leave
    split
    · rfl
    · rw [leave_len W (B.set x.toNat i), List.length_set]

/-- Where a vertex ends that stays, or isn't on the way. -/
theorem leave_other {p i : Int} {u : Nat} : ∀ (W B : List Int), (∀ x ∈ W, 0 ≤ x) → ((u : Int) ∉ W ∨ (u : Int) ∈ (leave p i W B).1 ∧ W.Nodup) → at_ (leave p i W B).2 u = at_ B u
  | [], B, _, _ => rfl
  | x :: W, B, h0, hu => by
    have e1 : leave p i (x :: W) B = if x = p then (x :: W, B) else leave p i W (B.set x.toNat i) := by
      conv => lhs; unfold leave
    rw [e1] at hu ⊢
    by_cases hx : x = p
    · rw [if_pos hx]
    · rw [if_neg hx] at hu ⊢
      have hx0 := h0 x List.mem_cons_self
      have hne : x.toNat ≠ u := by
        rcases hu with hu | ⟨hu, hd⟩
        · intro e
          exact hu (by rw [← e]; simp [Int.toNat_of_nonneg hx0])
        · intro e
          obtain ⟨X, h1, _, _⟩ := leave_way (p := p) (i := i) W (B.set x.toNat i)
          have : (u : Int) ∈ W := by rw [h1]; exact List.mem_append_right _ hu
          rw [← e, Int.toNat_of_nonneg hx0] at this
          exact (List.nodup_cons.1 hd).1 this
      rw [leave_other W (B.set x.toNat i) (fun y hy => h0 y (List.mem_cons_of_mem _ hy)) (by
        rcases hu with hu | ⟨hu, hd⟩
        · exact .inl fun h => hu (List.mem_cons_of_mem _ h)
        · exact .inr ⟨hu, (List.nodup_cons.1 hd).2⟩)]
      unfold at_
      rw [List.getD_eq_getElem?_getD, List.getElem?_set, if_neg hne, ← List.getD_eq_getElem?_getD]

/-- Where a vertex ends that is taken. -/
theorem leave_taken {p i : Int} {u : Nat} : ∀ (W B : List Int), (∀ x ∈ W, 0 ≤ x) → W.Nodup → (u : Int) ∈ W → (u : Int) ∉ (leave p i W B).1 → u < B.length → at_ (leave p i W B).2 u = i
  | [], B, _, _, hu, _, _ => by simp at hu
  | x :: W, B, h0, hd, hu, hn, hl => by
    have e1 : leave p i (x :: W) B = if x = p then (x :: W, B) else leave p i W (B.set x.toNat i) := by
      conv => lhs; unfold leave
    rw [e1] at hn ⊢
    by_cases hx : x = p
    · rw [if_pos hx] at hn
      exact absurd hu hn
    · rw [if_neg hx] at hn ⊢
      have h0' := fun y hy => h0 y (List.mem_cons_of_mem _ hy)
      by_cases e : (u : Int) = x
      · have hnW : (u : Int) ∉ W := by rw [e]; exact (List.nodup_cons.1 hd).1
        rw [leave_other W (B.set x.toNat i) h0' (.inl hnW)]
        have : x.toNat = u := by omega
        unfold at_
        rw [this, List.getD_eq_getElem?_getD, List.getElem?_set, if_pos rfl, if_pos hl]
        rfl
      · exact leave_taken W (B.set x.toNat i) h0' (List.nodup_cons.1 hd).2 ((List.mem_cons.1 hu).resolve_left e) hn (by rw [List.length_set]; exact hl)

end Df
end Go.Proofs.YtalfpbalekbinaaGreat
