/-
  Walk.
-/
import Derived.Test.YtponmjipbcmlhaaMgE
import Derived.Test.YtponmjipbcmlhaaMgF
import Derived.Test.YtponmjipbcmlhaaSiIn
namespace Go.Proofs.Ytponmjipbcmlhaa
open Go.RowKit

/-- Four lists of ints, each in memory of its own, laid since block B. -/
structure OwnF (w : World) (B : Nat) (v1 v2 v3 v4 : Value) (s : Df.St) : Prop where
  o1 : OwnZ w B v1 s.par
  o2 : OwnZ w B v2 s.hei
  o3 : OwnZ w B v3 s.ord
  o4 : OwnZ w B v4 s.ori
  n12 : ∀ b, v1.ownBlock = some b → v2.ownBlock ≠ some b
  n13 : ∀ b, v1.ownBlock = some b → v3.ownBlock ≠ some b
  n14 : ∀ b, v1.ownBlock = some b → v4.ownBlock ≠ some b
  n23 : ∀ b, v2.ownBlock = some b → v3.ownBlock ≠ some b
  n24 : ∀ b, v2.ownBlock = some b → v4.ownBlock ≠ some b
  n34 : ∀ b, v3.ownBlock = some b → v4.ownBlock ≠ some b

section
variable {w w' : World} {B : Nat} {v1 v2 v3 v4 : Value} {s : Df.St}
theorem OwnF.same (h : OwnF w B v1 v2 v3 v4 s) (hb : ∀ g, B ≤ g → g < w.heap.size → w'.heap[g]? = w.heap[g]?) : OwnF w' B v1 v2 v3 v4 s :=
  ⟨h.o1.same fun g hg hl => hb g (h.o1.lt hg).1 hl, h.o2.same fun g hg hl => hb g (h.o2.lt hg).1 hl, h.o3.same fun g hg hl => hb g (h.o3.lt hg).1 hl, h.o4.same fun g hg hl => hb g (h.o4.lt hg).1 hl, h.n12, h.n13, h.n14, h.n23, h.n24, h.n34⟩
theorem OwnF.later (h : OwnF w B v1 v2 v3 v4 s) (hb : Below w.heap.size w w') : OwnF w' B v1 v2 v3 v4 s := h.same fun g _ hl => hb.block g hl
theorem OwnF.lower {B' : Nat} (h : OwnF w B v1 v2 v3 v4 s) (hB : B' ≤ B) : OwnF w B' v1 v2 v3 v4 s := ⟨h.o1.lower hB, h.o2.lower hB, h.o3.lower hB, h.o4.lower hB, h.n12, h.n13, h.n14, h.n23, h.n24, h.n34⟩
theorem OwnF.empty (w : World) (B : Nat) : OwnF w B (.slice none 0 0) (.slice none 0 0) (.slice none 0 0) (.slice none 0 0) ⟨[], [], [], []⟩ :=
  ⟨.nil _ _, .nil _ _, .nil _ _, .nil _ _, (fun _ h => by cases h), (fun _ h => by cases h), (fun _ h => by cases h), (fun _ h => by cases h), (fun _ h => by cases h), (fun _ h => by cases h)⟩
end

/-- What Walk answers. -/
def WalkPost (n : Int) (es : List (Int × Int)) (w : World) (e : Ending) (w' : World) : Prop :=
  ∃ v1 v2 v3 v4 s z, e = .returned (.tuple #[.agg #[v1, v2, v3, v4], .int .i64 z]) ∧ OwnF w' w.heap.size v1 v2 v3 v4 s ∧
    ((∃ m : Nat, n = (m : Int) ∧ Si.Val n es ∧ Df.Wk m es m s ∧ z = 0) ∨ (Si.valid n es = false ∧ s = ⟨[], [], [], []⟩ ∧ z = 1)) ∧ Below w.heap.size w w'

theorem IntsBlk.own0 {w : World} {B g n : Nat} {l : List Int} (h : IntsBlk w g l) (hB : B ≤ g) (hl : l.length = n) (hm : n ≤ 8388608) : OwnZ w B (.slice (some ⟨g, 0, none⟩) 0 n) [] := by
  subst hl
  exact ⟨by simp, .inr ⟨g, _, _, rfl, hB, h, by simp, by unfold maxLen; omega, by simp, by simp⟩⟩

/-- A walk that begins is one under way. -/
theorem NewWPost.at {av : Value} {n m : Nat} {w w' : World} {e : Ending} (hn : n ≤ 8388608) (h : NewWPost av n m w e w') : ∃ p gp gh gr ov, e = .returned (.pointer (some ⟨p, 0, none⟩)) ∧ WalkAt w w' p gp gh gr av ov (.slice none 0 0) n m (Df.St.start n m) [] := by
  obtain ⟨p, gp, gh, go, gr, he, hb, h1, h2, h3, h4, ⟨b1, b2, b3, b4, b5⟩, ⟨d1, d2, d3, d4, d5, d6, d7, d8, d9, d10⟩, hbel⟩ := h
  refine ⟨p, gp, gh, gr, .slice (some ⟨go, 0, none⟩) 0 n, he, hbel, hb, h1, h2, h3, h4.own0 b4 (by simp) hn, .nil _ _, ⟨b1, b2, b3, b5⟩, ⟨d1, d2, d4, d5, d7, d9⟩, ⟨?_, ?_, ?_, ?_⟩, ⟨by simp [Value.ownBlock], by simp [Value.ownBlock], by simp [Value.ownBlock], by simp [Value.ownBlock]⟩, fun b _ => by simp [Value.ownBlock]⟩
  · exact fun e => d3 (Option.some.inj e).symm
  · exact fun e => d6 (Option.some.inj e).symm
  · exact fun e => d8 (Option.some.inj e).symm
  · exact fun e => d10 (Option.some.inj e)

/-- The lists of a walk that is over. -/
theorem WalkAt.own {w0 w : World} {p gp gh gr : Nat} {av ov sv : Value} {n m : Nat} {s : Df.St} {K : List Int} (h : WalkAt w0 w p gp gh gr av ov sv n m s K) (h1 : s.par.length = n) (h2 : s.hei.length = n) (h4 : s.ori.length = m) (hn : n ≤ 8388608) (hm : m ≤ 8388608) :
    OwnF w w0.heap.size (.slice (some ⟨gp, 0, none⟩) n n) (.slice (some ⟨gh, 0, none⟩) n n) ov (.slice (some ⟨gr, 0, none⟩) m m) s := by
  refine ⟨h.ip.own h.lo.2.1 h1 hn, h.ih.own h.lo.2.2.1 h2 hn, h.ow, h.ir.own h.lo.2.2.2 h4 hm, fun b hb e => ?_, fun b hb e => ?_, fun b hb e => ?_, fun b hb e => ?_, fun b hb e => ?_, fun b hb e => ?_⟩
  · exact h.ne.2.2.2.1 ((Option.some.inj hb).trans (Option.some.inj e).symm)
  · exact h.of_.2.1 (e.trans hb.symm)
  · exact h.ne.2.2.2.2.1 ((Option.some.inj hb).trans (Option.some.inj e).symm)
  · exact h.of_.2.2.1 (e.trans hb.symm)
  · exact h.ne.2.2.2.2.2 ((Option.some.inj hb).trans (Option.some.inj e).symm)
  · exact h.of_.2.2.2 (hb.trans e.symm)

theorem four_cells {w : World} {R : Nat} {t : TypeId} {a b c d : Value} (h : w.heap[R]? = some (.cells #[a, b, c, d] t (0, 0))) : w.cell? ⟨R, 0, none⟩ = some a ∧ w.cell? ⟨R, 1, none⟩ = some b ∧ w.cell? ⟨R, 2, none⟩ = some c ∧ w.cell? ⟨R, 3, none⟩ = some d ∧ ∀ i, w.frozen? ⟨R, i, none⟩ = false := by
  refine ⟨?_, ?_, ?_, ?_, fun i => ?_⟩
  · simp [World.cell?, h]
  · simp [World.cell?, h]
  · simp [World.cell?, h]
  · simp [World.cell?, h]
  · simp [World.frozen?, h]

theorem below_put4 {w w' : World} {B R : Nat} (h : Below B w w') (hR : B ≤ R) (a b c d : Value) : Below B w (put4 w' R a b c d) :=
  (((h.setCell (p := ⟨R, 0, none⟩) hR a).setCell (p := ⟨R, 1, none⟩) hR b).setCell (p := ⟨R, 2, none⟩) hR c).setCell (p := ⟨R, 3, none⟩) hR d

set_option maxRecDepth 100000 in
set_option maxHeartbeats 16000000 in
theorem dwalk_any (n : Int) (ao : Option Addr) (cap : Nat) (es : List (Int × Int)) (w : World) (he : EdgesAt w ao es) (hl : es.length ≤ 4611686018427387904) :
    Calls Try.prog 22 #[graphVal n ao es.length cap] w (WalkPost n es w) := by
  obtain ⟨W, hW⟩ : ∃ W, W = (w.alloc (.cells #[.int .i64 n, .slice ao es.length cap] 24)).alloc (.cells #[.slice none 0 0, .slice none 0 0, .slice none 0 0, .slice none 0 0] 28) := ⟨_, rfl⟩
  have hB0 : Below w.heap.size w W := by rw [hW]; exact ((Below.refl _ _).alloc (Nat.le_refl _) _).alloc (by simp) _
  have hsz : W.heap.size = w.heap.size + 2 := by rw [hW]; simp
  have g1 : W.heap[w.heap.size]? = some (.cells #[.int .i64 n, .slice ao es.length cap] 24 (0, 0)) := by
    rw [hW, Below.heap_alloc _ _ _ (by simp)]
    exact heap_alloc_new w _
  have g2 : W.heap[w.heap.size + 1]? = some (.cells #[.slice none 0 0, .slice none 0 0, .slice none 0 0, .slice none 0 0] 28 (0, 0)) := by
    rw [hW]
    exact alloc_at (by simp)
  have hnew := cnew_any n ao cap es W (he.later hB0) hl
  unfold graphVal at hnew ⊢
  have HB0 := Nu.hid hB0
  have HG2 := Nu.hid g2
  obtain ⟨x0, x1, -⟩ := pair_cells g1
  have HWW := Nu.hid hW
  rw [hW] at x0 x1
  cases hv : Si.valid n es with
  | false =>
    have HNEW : Hid (Calls Try.prog 37 #[.agg #[.int .i64 n, .slice ao es.length cap]] W fun e w' => e = .returned (.tuple #[.pointer none, .int .i64 1]) ∧ Below W.heap.size W w') := hnew.mono (by
      rintro e w' ⟨⟨m, q, rfl, hval, _⟩ | ⟨_, h⟩, hb⟩
      · rw [Si.valid_iff.2 hval] at hv; cases hv
      · exact ⟨h, hb⟩)
    have HV := Nu.hid hv
    clear hnew hB0 g1 g2 he hW hv
    go_enter Try.func22, Try.ntmps22
    go_wp2_with (go_at_call 37; rw [← HWW.out]; refine HNEW.out.mono ?_; rintro e w1 ⟨rfl, hb1⟩; refine Hid.out ?_)
    refine Nu.hid ?_
    have hk2 := (hb1.block _ (by omega)).trans HG2.out
    have HB1 := Nu.hid (HB0.out.trans (hb1.mono HB0.out.size))
    obtain ⟨r0, r1, r2, r3, -⟩ := four_cells (put4_heap hk2 (.slice none 0 0) (.slice none 0 0) (.slice none 0 0) (.slice none 0 0))
    have R0 := Nu.hid r0
    have R1 := Nu.hid r1
    have R2 := Nu.hid r2
    have R3 := Nu.hid r3
    unfold put4 at R0 R1 R2 R3
    obtain ⟨k0, k1, k2, k3, kf⟩ := four_cells hk2
    have HBZ := Nu.hid (below_put4 HB1.out (R := w.heap.size + 1) (by omega) (.slice none 0 0) (.slice none 0 0) (.slice none 0 0) (.slice none 0 0))
    unfold put4 at HBZ
    clear hb1 hk2 r0 r1 r2 r3
    go_wp2
    refine bodyPost_ret (v := .tuple #[.agg #[.slice none 0 0, .slice none 0 0, .slice none 0 0, .slice none 0 0], .int .i64 1]) (by simp [results, Try.results22, go_sem, R0.out, R1.out, R2.out, R3.out]) rfl ?_
    exact ⟨_, _, _, _, _, _, rfl, OwnF.empty _ _, .inr ⟨HV.out, rfl, rfl⟩, HBZ.out⟩
  | true =>
    obtain ⟨m, rfl⟩ : ∃ m : Nat, n = (m : Int) := ⟨n.toNat, by have := (Si.valid_iff.1 hv).lo; omega⟩
    have hval := Si.valid_iff.1 hv
    have HNEW : Hid (Calls Try.prog 37 #[.agg #[.int .i64 (m : Int), .slice ao es.length cap]] W fun e w' => ∃ q, e = .returned (.tuple #[.pointer (some ⟨q, 0, none⟩), .int .i64 0]) ∧ AdjAt w' W.heap.size q m es ∧ Below W.heap.size W w') := hnew.mono (by
      rintro e w' ⟨⟨m', q, hm, _, h, ha⟩ | ⟨h, _⟩, hb⟩
      · obtain rfl : m = m' := by omega
        exact ⟨q, h, ha, hb⟩
      · rw [hv] at h; cases h)
    have HVAL := Nu.hid hval
    clear hnew hB0 g1 g2 he hW hv hval
    go_enter Try.func22, Try.ntmps22
    go_wp2_with (go_at_call 37; rw [← HWW.out]; refine HNEW.out.mono ?_; rintro e w1 ⟨q, rfl, hadj, hb1⟩; refine Hid.out ?_)
    refine Nu.hid ?_
    have hk2 := (hb1.block _ (by omega)).trans HG2.out
    have HB1 := Nu.hid (HB0.out.trans (hb1.mono HB0.out.size))
    have hs1 := hb1.size
    have hav : IsAdj w1 (.pointer (some ⟨q, 0, none⟩)) m es := .inr ⟨_, q, rfl, HVAL.out, hadj⟩
    have HADJ := Nu.hid hav
    obtain ⟨hbn, hbm⟩ := hav.bounds
    have HNW := Nu.hid (newWalker_any _ m es w1 hav)
    have HK2 := Nu.hid hk2
    clear hb1 x0 x1 hadj hav hk2
    go_wp2_with (go_at_call 38; refine HNW.out.mono ?_; intro e w2 hnw; obtain ⟨p, gp, gh, gr, ov, rfl, h2⟩ := hnw.at (by omega); have H2 := Nu.hid h2; clear h2 hnw; refine Hid.out ?_)
    refine Nu.hid ?_
    have HN2 := Nu.hid (aN_any _ m es w2 (HADJ.out.later H2.out.bel))
    go_wp2_with (go_at_call 39; refine HN2.out.mono ?_; rintro e w3 ⟨rfl, rfl⟩)
    go_loopw [21] (fun c wr => ∃ (i : Nat) (s : Df.St) (ov sv : Value), i ≤ m ∧ c = .int .i64 i ∧ Df.Wk m es i s ∧ WalkAt w1 wr p gp gh gr (.pointer (some ⟨q, 0, none⟩)) ov sv m es.length s []) (fun c _ => m - (intOf c).toNat)
    case atStart => exact ⟨0, _, _, _, Nat.zero_le _, rfl, .zero, H2.out⟩
    case round =>
      obtain ⟨i, s, ov', sv', him, rfl, hwk, hw⟩ := hrel
      have hbd := hwk.bd HVAL.out him
      by_cases hlt : i < m
      · have hlti : (i : Int) < (m : Int) := by omega
        have hre := reached_any i hw hbd.lh hlt
        by_cases hh : s.height i = -1
        · have hb : (s.height i != -1) = false := by simpa using hh
          rw [hb] at hre
          obtain ⟨k, s2, hR, _⟩ := Df.total HVAL.out (s.reach i (-1) 0).left (Cs.out es i (2 * es.length)) (s.reach i (-1) 0) (Nat.le_refl _) (hbd.root hlt) Df.out_half
          have HWT := Nu.hid (walkTree_any i k HADJ.out hw hbd hlt (by omega) hR)
          have HRE := Nu.hid hre
          have HWK : Hid (Df.Wk m es (i + 1) s2) := .walk hwk hh hR
          clear hre hb hR hwk hw hbd hh
          go_wp2_with (first | (go_at_call 40; refine HRE.out.mono ?_; rintro e w4 ⟨rfl, rfl⟩) | (go_at_call 41; refine HWT.out.mono ?_; rintro e w5 ⟨rfl, ov5, sv5, h5⟩; have H5 := Nu.hid h5; clear h5))
          go_roundw
          case rel => exact ⟨i + 1, s2, ov5, sv5, by omega, by go_num, HWK.out, H5.out⟩
          case measure => simp [intOf]; omega
        · have hb : (s.height i != -1) = true := by simpa using hh
          rw [hb] at hre
          have HRE := Nu.hid hre
          have HWK : Hid (Df.Wk m es (i + 1) s) := .pass hwk hh
          have H5 := Nu.hid hw
          clear hre hb hwk hw hbd hh
          go_wp2_with (first | (go_at_call 40; refine HRE.out.mono ?_; rintro e w4 ⟨rfl, rfl⟩))
          go_roundw
          case rel => exact ⟨i + 1, s, ov', sv', by omega, by go_num, HWK.out, H5.out⟩
          case measure => simp [intOf]; omega
      · obtain rfl : i = m := by omega
        have hd : ¬ ((i : Int) < (i : Int)) := by omega
        have hown := hw.own hbd.lp hbd.lh hbd.lo (by omega) (by omega)
        have c1 := hw.c1
        have c2 := hw.c2
        have c3 := hw.c3
        have c4 := hw.c4
        have hk3 := (hw.bel.block (w.heap.size + 1) (by omega)).trans HK2.out
        obtain ⟨k0, k1, k2, k3, kf⟩ := four_cells hk3
        obtain ⟨r0, r1, r2, r3, -⟩ := four_cells (put4_heap hk3 (.slice (some ⟨gp, 0, none⟩) i i) (.slice (some ⟨gh, 0, none⟩) i i) ov' (.slice (some ⟨gr, 0, none⟩) es.length es.length))
        have R0 := Nu.hid r0
        have R1 := Nu.hid r1
        have R2 := Nu.hid r2
        have R3 := Nu.hid r3
        unfold put4 at R0 R1 R2 R3
        have hoZ : OwnF (put4 wr (w.heap.size + 1) (.slice (some ⟨gp, 0, none⟩) i i) (.slice (some ⟨gh, 0, none⟩) i i) ov' (.slice (some ⟨gr, 0, none⟩) es.length es.length)) w1.heap.size (.slice (some ⟨gp, 0, none⟩) i i) (.slice (some ⟨gh, 0, none⟩) i i) ov' (.slice (some ⟨gr, 0, none⟩) es.length es.length) s := hown.same fun g hg _ => put4_other (by omega) _ _ _ _
        have hbZ := below_put4 (HB1.out.trans (hw.bel.mono HB1.out.size)) (R := w.heap.size + 1) (by omega) (.slice (some ⟨gp, 0, none⟩) i i) (.slice (some ⟨gh, 0, none⟩) i i) ov' (.slice (some ⟨gr, 0, none⟩) es.length es.length)
        have HOZ := Nu.hid (hoZ.lower HB1.out.size)
        have HBZ := Nu.hid hbZ
        unfold put4 at HOZ HBZ
        obtain ⟨ao3, cap3, hov, _, _⟩ := hw.ow.form
        subst hov
        have HWK := Nu.hid hwk
        clear hwk hw hbd hown hk3 r0 r1 r2 r3 hoZ hbZ
        go_wp2
        refine bodyPost_ret (v := .tuple #[.agg #[.slice (some ⟨gp, 0, none⟩) i i, .slice (some ⟨gh, 0, none⟩) i i, .slice ao3 s.ord.length cap3, .slice (some ⟨gr, 0, none⟩) es.length es.length], .int .i64 0]) (by simp [results, Try.results22, go_sem, R0.out, R1.out, R2.out, R3.out]) rfl ?_
        exact ⟨_, _, _, _, _, _, rfl, HOZ.out, .inl ⟨i, rfl, HVAL.out, HWK.out, rfl⟩, HBZ.out⟩

end Go.Proofs.Ytponmjipbcmlhaa
