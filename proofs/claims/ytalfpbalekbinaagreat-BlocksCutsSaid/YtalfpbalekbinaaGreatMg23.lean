import Derived.Test.YtalfpbalekbinaaGreatMg22
import Derived.Test.YtalfpbalekbinaaGreatMg10
import Derived.Test.YtalfpbalekbinaaGreatMg06
/-
  Walk.
-/
namespace Go.Proofs.YtalfpbalekbinaaGreat
open Go.RowKit

/-- What Walk answers. -/
def WalkPost (n : Int) (es : List (Int × Int)) (w : World) (e : Ending) (w' : World) : Prop :=
  ∃ v1 v2 v3 v4 s z, e = .returned (.tuple #[.agg #[v1, v2, v3, v4], .int .i64 z]) ∧ OwnF w' w.heap.size v1 v2 v3 v4 s ∧
    ((∃ m : Nat, n = (m : Int) ∧ Si.Val n es ∧ Df.Wk m es m s ∧ z = 0) ∨ (Si.valid n es = false ∧ s = ⟨[], [], [], []⟩ ∧ z = 1)) ∧ Below w.heap.size w w'

/-- A walk that begins is one under way. -/
theorem NewWPost.at {av : Value} {n m : Nat} {w w' : World} {e : Ending} (hn : n ≤ 8388608) (h : NewWPost av n m w e w') : ∃ p gp gh gr ov, e = .returned (.pointer (some ⟨p, 0, none⟩)) ∧ WalkAt w w' p gp gh gr av ov (.slice none 0 0) n m (Df.St.start n m) [] := by
  obtain ⟨p, gp, gh, go, gr, he, hb, h1, h2, h3, h4, ⟨b1, b2, b3, b4, b5⟩, ⟨d1, d2, d3, d4, d5, d6, d7, d8, d9, d10⟩, hbel⟩ := h
  refine ⟨p, gp, gh, gr, .slice (some ⟨go, 0, none⟩) 0 n, he, hbel, hb, h1, h2, h3, h4.own0 b4 (by simp) hn, .nil _ _, ⟨b1, b2, b3, b5⟩, ⟨d1, d2, d4, d5, d7, d9⟩, ⟨?_, ?_, ?_, ?_⟩, ⟨by simp [Value.ownBlock], by simp [Value.ownBlock], by simp [Value.ownBlock], by simp [Value.ownBlock]⟩, fun b _ => by simp [Value.ownBlock]⟩
  · exact fun e => d3 (Option.some.inj e).symm
  · exact fun e => d6 (Option.some.inj e).symm
  · exact fun e => d8 (Option.some.inj e).symm
  · exact fun e => d10 (Option.some.inj e)

/-- The lists of a walk that is over. -/
theorem WalkAt.own {w0 w : World} {p gp gh gr : Nat} {av ov sv : Value} {n m : Nat} {s : Df.St} {K : List Int} (h : WalkAt w0 w p gp gh gr av ov sv n m s K) (h1 : s.par.length = n) (h2 : s.hei.length = n) (h4 : s.ori.length = m) (hn : n ≤ 8388608) (hm : m ≤ 8388608) :
    OwnF w w0.heap.size (.slice (some ⟨gp, 0, none⟩) n n) (.slice (some ⟨gh, 0, none⟩) n n) ov (.slice (some ⟨gr, 0, none⟩) m m) s := by
  refine ⟨h.ip.own h.lo.2.1 h1 hn, h.ih.own h.lo.2.2.1 h2 hn, h.ow, h.ir.own h.lo.2.2.2 h4 hm, fun b hb e => ?_, fun b hb e => ?_, fun b hb e => ?_, fun b hb e => ?_, fun b hb e => ?_, fun b hb e => ?_⟩
  · exact h.ne.2.2.2.1 ((Option.some.inj hb).trans (Option.some.inj e).symm)
  · exact h.of_.2.1 (e.trans hb.symm)
  · exact h.ne.2.2.2.2.1 ((Option.some.inj hb).trans (Option.some.inj e).symm)
  · exact h.of_.2.2.1 (e.trans hb.symm)
  · exact h.ne.2.2.2.2.2 ((Option.some.inj hb).trans (Option.some.inj e).symm)
  · exact h.of_.2.2.2 (hb.trans e.symm)

set_option maxRecDepth 100000 in
set_option maxHeartbeats 16000000 in
theorem dwalk_any (n : Int) (ao : Option Addr) (cap : Nat) (es : List (Int × Int)) (w : World) (he : EdgesAt w ao es) (hl : es.length ≤ 4611686018427387904) :
    Calls Tryz.prog 30 #[graphVal n ao es.length cap] w (WalkPost n es w) := by
  obtain ⟨W, hW⟩ : ∃ W, W = (w.alloc (.cells #[.int .i64 n, .slice ao es.length cap] 24)).alloc (.cells #[.slice none 0 0, .slice none 0 0, .slice none 0 0, .slice none 0 0] 62) := ⟨_, rfl⟩
  have hB0 : Below w.heap.size w W := by rw [hW]; exact ((Below.refl _ _).alloc (Nat.le_refl _) _).alloc (by simp) _
  have hsz : W.heap.size = w.heap.size + 2 := by rw [hW]; simp
  have g1 : W.heap[w.heap.size]? = some (.cells #[.int .i64 n, .slice ao es.length cap] 24 (0, 0)) := by
    rw [hW, Below.heap_alloc _ _ _ (by simp)]
    exact heap_alloc_new w _
  have g2 : W.heap[w.heap.size + 1]? = some (.cells #[.slice none 0 0, .slice none 0 0, .slice none 0 0, .slice none 0 0] 62 (0, 0)) := by
    rw [hW]
    exact alloc_at (by simp)
  have hnew := cnew_any n ao cap es W (he.later hB0) hl
  unfold graphVal at hnew ⊢
  have HB0 := Nu.hid hB0
  have HG2 := Nu.hid g2
  obtain ⟨x0, x1, -⟩ := pair_cells g1
  have HWW := Nu.hid hW
  rw [hW] at x0 x1
  cases hv : Si.valid n es with
  | false =>
    have HNEW : Hid (Calls Tryz.prog 29 #[.agg #[.int .i64 n, .slice ao es.length cap]] W fun e w' => e = .returned (.tuple #[.pointer none, .int .i64 1]) ∧ Below W.heap.size W w') := hnew.mono (by
      rintro e w' ⟨⟨m, q, rfl, hval, _⟩ | ⟨_, h⟩, hb⟩
      · rw [Si.valid_iff.2 hval] at hv; cases hv
      · exact ⟨h, hb⟩)
    have HV := Nu.hid hv
    clear hnew hB0 g1 g2 he hW hv
    go_enter Tryz.func30, Tryz.ntmps30
    go_wp2_with (go_at_call 29; rw [← HWW.out]; refine HNEW.out.mono ?_; rintro e w1 ⟨rfl, hb1⟩; refine Hid.out ?_)
    refine Nu.hid ?_
    have hk2 := (hb1.block _ (by omega)).trans HG2.out
    have HB1 := Nu.hid (HB0.out.trans (hb1.mono HB0.out.size))
    obtain ⟨r0, r1, r2, r3, -⟩ := four_cells (put4_heap hk2 (.slice none 0 0) (.slice none 0 0) (.slice none 0 0) (.slice none 0 0))
    have R0 := Nu.hid r0
    have R1 := Nu.hid r1
    have R2 := Nu.hid r2
    have R3 := Nu.hid r3
    unfold put4 at R0 R1 R2 R3
    obtain ⟨k0, k1, k2, k3, kf⟩ := four_cells hk2
    have HBZ := Nu.hid (below_put4 HB1.out (R := w.heap.size + 1) (by omega) (.slice none 0 0) (.slice none 0 0) (.slice none 0 0) (.slice none 0 0))
    unfold put4 at HBZ
    clear hb1 hk2 r0 r1 r2 r3
    go_wp2
    refine bodyPost_ret (v := .tuple #[.agg #[.slice none 0 0, .slice none 0 0, .slice none 0 0, .slice none 0 0], .int .i64 1]) (by simp [results, Tryz.results30, go_sem, R0.out, R1.out, R2.out, R3.out]) rfl ?_
    exact ⟨_, _, _, _, _, _, rfl, OwnF.empty _ _, .inr ⟨HV.out, rfl, rfl⟩, HBZ.out⟩
  | true =>
    obtain ⟨m, rfl⟩ : ∃ m : Nat, n = (m : Int) := ⟨n.toNat, by have := (Si.valid_iff.1 hv).lo; omega⟩
    have hval := Si.valid_iff.1 hv
    have HNEW : Hid (Calls Tryz.prog 29 #[.agg #[.int .i64 (m : Int), .slice ao es.length cap]] W fun e w' => ∃ q, e = .returned (.tuple #[.pointer (some ⟨q, 0, none⟩), .int .i64 0]) ∧ AdjAt w' W.heap.size q m es ∧ Below W.heap.size W w') := hnew.mono (by
      rintro e w' ⟨⟨m', q, hm, _, h, ha⟩ | ⟨h, _⟩, hb⟩
      · obtain rfl : m = m' := by omega
        exact ⟨q, h, ha, hb⟩
      · rw [hv] at h; cases h)
    have HVAL := Nu.hid hval
    clear hnew hB0 g1 g2 he hW hv hval
    go_enter Tryz.func30, Tryz.ntmps30
    go_wp2_with (go_at_call 29; rw [← HWW.out]; refine HNEW.out.mono ?_; rintro e w1 ⟨q, rfl, hadj, hb1⟩; refine Hid.out ?_)
    refine Nu.hid ?_
    have hk2 := (hb1.block _ (by omega)).trans HG2.out
    have HB1 := Nu.hid (HB0.out.trans (hb1.mono HB0.out.size))
    have hs1 := hb1.size
    have hav : IsAdj w1 (.pointer (some ⟨q, 0, none⟩)) m es := .inr ⟨_, q, rfl, HVAL.out, hadj⟩
    have HADJ := Nu.hid hav
    obtain ⟨hbn, hbm⟩ := hav.bounds
    have HNW := Nu.hid (newWalker_any _ m es w1 hav)
    have HK2 := Nu.hid hk2
    clear hb1 x0 x1 hadj hav hk2
    go_wp2_with (go_at_call 50; refine HNW.out.mono ?_; intro e w2 hnw; obtain ⟨p, gp, gh, gr, ov, rfl, h2⟩ := hnw.at (by omega); have H2 := Nu.hid h2; clear h2 hnw; refine Hid.out ?_)
    refine Nu.hid ?_
    have HN2 := Nu.hid (aN_any _ m es w2 (HADJ.out.later H2.out.bel))
    go_wp2_with (go_at_call 34; refine HN2.out.mono ?_; rintro e w3 ⟨rfl, rfl⟩)
    go_loopw [21] (fun c wr => ∃ (i : Nat) (s : Df.St) (ov sv : Value), i ≤ m ∧ c = .int .i64 i ∧ Df.Wk m es i s ∧ WalkAt w1 wr p gp gh gr (.pointer (some ⟨q, 0, none⟩)) ov sv m es.length s []) (fun c _ => m - (intOf c).toNat)
    case atStart => exact ⟨0, _, _, _, Nat.zero_le _, rfl, .zero, H2.out⟩
    case round =>
      obtain ⟨i, s, ov', sv', him, rfl, hwk, hw⟩ := hrel
      have hbd := hwk.bd HVAL.out him
      by_cases hlt : i < m
      · have hlti : (i : Int) < (m : Int) := by omega
        have hre := reached_any i hw hbd.lh hlt
        by_cases hh : s.height i = -1
        · have hb : (s.height i != -1) = false := by simpa using hh
          rw [hb] at hre
          obtain ⟨k, s2, hR, _⟩ := Df.total HVAL.out (s.reach i (-1) 0).left (Cs.out es i (2 * es.length)) (s.reach i (-1) 0) (Nat.le_refl _) (hbd.root hlt) Df.out_half
          have HWT := Nu.hid (walkTree_any i k HADJ.out hw hbd hlt (by omega) hR)
          have HRE := Nu.hid hre
          have HWK : Hid (Df.Wk m es (i + 1) s2) := .walk hwk hh hR
          clear hre hb hR hwk hw hbd hh
          go_wp2_with (first | (go_at_call 51; refine HRE.out.mono ?_; rintro e w4 ⟨rfl, rfl⟩) | (go_at_call 52; refine HWT.out.mono ?_; rintro e w5 ⟨rfl, ov5, sv5, h5⟩; have H5 := Nu.hid h5; clear h5))
          go_roundw
          case rel => exact ⟨i + 1, s2, ov5, sv5, by omega, by go_num, HWK.out, H5.out⟩
          case measure => simp [intOf]; omega
        · have hb : (s.height i != -1) = true := by simpa using hh
          rw [hb] at hre
          have HRE := Nu.hid hre
          have HWK : Hid (Df.Wk m es (i + 1) s) := .pass hwk hh
          have H5 := Nu.hid hw
          clear hre hb hwk hw hbd hh
          go_wp2_with (first | (go_at_call 51; refine HRE.out.mono ?_; rintro e w4 ⟨rfl, rfl⟩))
          go_roundw
          case rel => exact ⟨i + 1, s, ov', sv', by omega, by go_num, HWK.out, H5.out⟩
          case measure => simp [intOf]; omega
      · obtain rfl : i = m := by omega
        have hd : ¬ ((i : Int) < (i : Int)) := by omega
        have hown := hw.own hbd.lp hbd.lh hbd.lo (by omega) (by omega)
        have c1 := hw.c1
        have c2 := hw.c2
        have c3 := hw.c3
        have c4 := hw.c4
        have hk3 := (hw.bel.block (w.heap.size + 1) (by omega)).trans HK2.out
        obtain ⟨k0, k1, k2, k3, kf⟩ := four_cells hk3
        obtain ⟨r0, r1, r2, r3, -⟩ := four_cells (put4_heap hk3 (.slice (some ⟨gp, 0, none⟩) i i) (.slice (some ⟨gh, 0, none⟩) i i) ov' (.slice (some ⟨gr, 0, none⟩) es.length es.length))
        have R0 := Nu.hid r0
        have R1 := Nu.hid r1
        have R2 := Nu.hid r2
        have R3 := Nu.hid r3
        unfold put4 at R0 R1 R2 R3
        have hoZ : OwnF (put4 wr (w.heap.size + 1) (.slice (some ⟨gp, 0, none⟩) i i) (.slice (some ⟨gh, 0, none⟩) i i) ov' (.slice (some ⟨gr, 0, none⟩) es.length es.length)) w1.heap.size (.slice (some ⟨gp, 0, none⟩) i i) (.slice (some ⟨gh, 0, none⟩) i i) ov' (.slice (some ⟨gr, 0, none⟩) es.length es.length) s := hown.same fun g hg _ => put4_other (by omega) _ _ _ _
        have hbZ := below_put4 (HB1.out.trans (hw.bel.mono HB1.out.size)) (R := w.heap.size + 1) (by omega) (.slice (some ⟨gp, 0, none⟩) i i) (.slice (some ⟨gh, 0, none⟩) i i) ov' (.slice (some ⟨gr, 0, none⟩) es.length es.length)
        have HOZ := Nu.hid (hoZ.lower HB1.out.size)
        have HBZ := Nu.hid hbZ
        unfold put4 at HOZ HBZ
        obtain ⟨ao3, cap3, hov, _, _⟩ := hw.ow.form
        subst hov
        have HWK := Nu.hid hwk
        clear hwk hw hbd hown hk3 r0 r1 r2 r3 hoZ hbZ
        go_wp2
        refine bodyPost_ret (v := .tuple #[.agg #[.slice (some ⟨gp, 0, none⟩) i i, .slice (some ⟨gh, 0, none⟩) i i, .slice ao3 s.ord.length cap3, .slice (some ⟨gr, 0, none⟩) es.length es.length], .int .i64 0]) (by simp [results, Tryz.results30, go_sem, R0.out, R1.out, R2.out, R3.out]) rfl ?_
        exact ⟨_, _, _, _, _, _, rfl, HOZ.out, .inl ⟨i, rfl, HVAL.out, HWK.out, rfl⟩, HBZ.out⟩

end Go.Proofs.YtalfpbalekbinaaGreat

/-
  The walk gives a depth-first forest, pure: what is so of every walk under way.
-/
namespace Go.Proofs.YtalfpbalekbinaaGreat
namespace Df

theorem at_set {l : List Int} {v : Nat} (hv : v < l.length) (x : Int) (u : Nat) : at_ (l.set v x) u = if u = v then x else at_ l u := by
  unfold at_
  rw [List.getD_eq_getElem?_getD, List.getElem?_set]
  by_cases e : v = u
  · rw [if_pos e, if_pos hv, if_pos e.symm]; rfl
  · rw [if_neg e, if_neg (fun h => e h.symm), List.getD_eq_getElem?_getD]

theorem at_app {l : List Int} {x : Int} {i : Nat} (hi : i < l.length) : at_ (l ++ [x]) i = at_ l i := by
  unfold at_
  rw [List.getD_eq_getElem?_getD, List.getElem?_append_left hi, List.getD_eq_getElem?_getD]

theorem at_last {l : List Int} {x : Int} : at_ (l ++ [x]) l.length = x := by
  unfold at_
  rw [List.getD_eq_getElem?_getD, List.getElem?_append_right (Nat.le_refl _)]
  simp

/-- s' goes on from s: what was reached or walked stays. -/
structure Ext (s s' : St) : Prop where
  par : ∀ v : Nat, s.height v ≠ -1 → at_ s'.par v = at_ s.par v
  hei : ∀ v : Nat, s.height v ≠ -1 → s'.height v = s.height v
  dir : ∀ e : Nat, s.dir e ≠ -1 → s'.dir e = s.dir e

theorem Ext.refl (s : St) : Ext s s := ⟨fun _ _ => rfl, fun _ _ => rfl, fun _ _ => rfl⟩
theorem Ext.reached {s s' : St} (h : Ext s s') {v : Nat} (hv : s.height v ≠ -1) : s'.height v ≠ -1 := by rw [h.hei v hv]; exact hv
theorem Ext.walked {s s' : St} (h : Ext s s') {e : Nat} (hv : s.dir e ≠ -1) : s'.dir e ≠ -1 := by rw [h.dir e hv]; exact hv
theorem Ext.trans {s s' s'' : St} (h : Ext s s') (h' : Ext s' s'') : Ext s s'' :=
  ⟨fun v hv => (h'.par v (h.reached hv)).trans (h.par v hv), fun v hv => (h'.hei v (h.reached hv)).trans (h.hei v hv), fun e he => (h'.dir e (h.walked he)).trans (h.dir e he)⟩

section
variable {n r : Nat} {es : List (Int × Int)} {s s' : St} {W : List Int}

theorem Ext.up (h : Ext s s') {v : Nat} (hv : s.height v ≠ -1) : Df.up es s' v = Df.up es s v := by
  unfold Df.up
  rw [Int.toNat_natCast, h.par v hv]

/-- All of them were reached. -/
abbrev Rd (n : Nat) (s : St) (W : List Int) : Prop := ∀ x ∈ W, ∃ u : Nat, x = (u : Int) ∧ u < n ∧ s.height u ≠ -1

theorem Ext.rd (h : Ext s s') (hr : Rd n s W) : Rd n s' W := fun x hx => by
  obtain ⟨u, e, h1, h2⟩ := hr x hx
  exact ⟨u, e, h1, h.reached h2⟩

theorem Ext.way (h : Ext s s') : ∀ {W : List Int}, Rd n s W → IsWay es s W → IsWay es s' W
  | [], _, _ => trivial
  | v :: W, hr, hw => by
    obtain ⟨u, rfl, h1, h2⟩ := hr v List.mem_cons_self
    refine ⟨hw.1, ?_, Ext.way h (fun x hx => hr x (List.mem_cons_of_mem _ hx)) hw.2.2⟩
    rw [h.up h2]
    exact hw.2.1

/-- An edge that was walked. -/
def Edge2 (n : Nat) (es : List (Int × Int)) (s : St) (e : Nat) : Prop :=
  ∃ h : Nat, (h = 2 * e ∨ h = 2 * e + 1) ∧ s.dir e = (h : Int) ∧ ((s.height (Cs.to es h) ≠ -1 ∧ at_ s.par (Cs.to es h) = (h : Int)) ∨ ∃ W, IsWay es s ((Cs.fr es h : Int) :: W) ∧ (Cs.to es h : Int) ∈ (Cs.fr es h : Int) :: W ∧ Rd n s ((Cs.fr es h : Int) :: W))

theorem Edge2.ext {e : Nat} (h : Ext s s') (hd : Edge2 n es s e) : Edge2 n es s' e := by
  obtain ⟨x, h1, h2, h3⟩ := hd
  refine ⟨x, h1, ?_, ?_⟩
  · rw [h.dir e (by rw [h2]; omega)]
    exact h2
  · rcases h3 with ⟨h4, h5⟩ | ⟨W, h4, h5, h6⟩
    · exact .inl ⟨h.reached h4, by rw [h.par _ h4]; exact h5⟩
    · exact .inr ⟨W, h.way h6 h4, h5, h.rd h6⟩

/-- What lies ahead decides. -/
theorem side_ext : ∀ k, (∀ i, i < k → at_ s'.ord i = at_ s.ord i ∧ Df.up es s' (at_ s.ord i) = Df.up es s (at_ s.ord i)) → side n es s' k = side n es s k
  | 0, _ => rfl
  | k + 1, h => by
    unfold side
    rw [side_ext k (fun i hi => h i (by omega))]
    obtain ⟨h1, h2⟩ := h k (by omega)
    rw [h1, h2]

/-- A vertex that was reached hangs as it should. -/
def Hang2 (es : List (Int × Int)) (s : St) (v : Nat) : Prop :=
  (at_ s.par v = -1 ∧ s.height v = 0) ∨ ∃ h : Nat, h < 2 * es.length ∧ at_ s.par v = (h : Int) ∧ Cs.to es h = v ∧ s.dir (h / 2) = (h : Int) ∧ s.height (Cs.fr es h) ≠ -1 ∧ s.height v = s.height (Cs.fr es h) + 1

theorem Hang2.ext {v : Nat} (h : Ext s s') (hv : s.height v ≠ -1) (hd : Hang2 es s v) : Hang2 es s' v := by
  unfold Hang2
  rw [h.par v hv, h.hei v hv]
  rcases hd with h1 | ⟨x, h1, h2, h3, h4, h5, h6⟩
  · exact .inl h1
  · refine .inr ⟨x, h1, h2, h3, ?_, h.reached h5, ?_⟩
    · rw [h.dir _ (by rw [h4]; omega)]
      exact h4
    · rw [h.hei _ h5]
      exact h6

/-- What is so of a walk under way; W: the way from the vertex at which it stands up to its root. -/
structure Inv (n : Nat) (es : List (Int × Int)) (W : List Int) (s : St) : Prop where
  once : ∀ i, i < s.ord.length → ∀ j, j < i → at_ s.ord j ≠ at_ s.ord i
  mem : ∀ v : Nat, v < n → ((v : Int) ∈ s.ord ↔ s.height v ≠ -1)
  hang : ∀ v : Nat, v < n → s.height v ≠ -1 → Hang2 es s v
  side : ∃ X B, Df.side n es s s.ord.length = some (X ++ W, B) ∧ (X ++ W).Nodup ∧ Rd n s (X ++ W)
  way : IsWay es s W
  edge : ∀ e, e < es.length → s.dir e ≠ -1 → Edge2 n es s e
  fin : ∀ v : Nat, v < n → s.height v ≠ -1 → (v : Int) ∉ W → ∀ h, h < 2 * es.length → Cs.fr es h = v → s.dir (h / 2) ≠ -1

theorem Inv.rd (h : Inv n es W s) : Rd n s W := by
  obtain ⟨X, B, _, _, hr⟩ := h.side
  exact fun x hx => hr x (List.mem_append_right _ hx)

theorem at_mem {l : List Int} {i : Nat} (hi : i < l.length) : at_ l i ∈ l := by
  unfold at_
  rw [List.getD_eq_getElem?_getD, List.getElem?_eq_getElem hi]
  exact List.getElem_mem hi

/-- A vertex of the order was reached. -/
theorem Inv.at_rd (b : Bd n es r s) (h : Inv n es W s) {i : Nat} (hi : i < s.ord.length) : ∃ u : Nat, at_ s.ord i = (u : Int) ∧ u < n ∧ s.height u ≠ -1 := by
  have hm := at_mem hi
  have h0 := b.hd _ hm
  refine ⟨(at_ s.ord i).toNat, by omega, by omega, (h.mem _ (by omega)).1 ?_⟩
  rw [Int.toNat_of_nonneg h0.1]
  exact hm

theorem mark_ext (b : Bd n es r s) {h : Nat} (hl : h < 2 * es.length) (hw : s.dir (h / 2) = -1) : Ext s (s.mark h) :=
  ⟨fun _ _ => rfl, fun _ _ => rfl, fun e he => by
    rw [dir_mark b hl, if_neg]
    intro e1
    rw [e1] at he
    exact he hw⟩

theorem reach_ext (b : Bd n es r s) {v : Nat} (hv : v < n) (hu : s.height v = -1) (x y : Int) : Ext s (s.reach v x y) :=
  ⟨fun u hr => by
    show at_ (s.par.set v x) u = _
    rw [at_set (by rw [b.lp]; exact hv), if_neg]
    intro e
    rw [e] at hr
    exact hr hu, fun u hr => by
    rw [height_reach b hv, if_neg]
    intro e
    rw [e] at hr
    exact hr hu, fun e he => rfl⟩

/-- A half-edge is walked back to a vertex of the way. -/
theorem Inv.back {v h : Nat} (hval : Si.Val n es) (b : Bd n es r s) (i : Inv n es ((v : Int) :: W) s) (hl : h < 2 * es.length) (hf : Cs.fr es h = v) (hw : s.dir (h / 2) = -1) (hv : s.height (Cs.to es h) ≠ -1) : Inv n es ((v : Int) :: W) (s.mark h) := by
  have hx := mark_ext b hl hw
  have ht := (Cs.half_lt hval hl).2
  have hin : (Cs.to es h : Int) ∈ (v : Int) :: W := by
    refine Classical.byContradiction fun hn => ?_
    have := i.fin _ ht hv hn (Cs.twin h) (Cs.twin_lt hl) (Cs.fr_twin es h)
    apply this
    have e : Cs.twin h / 2 = h / 2 := by unfold Cs.twin; split <;> omega
    rw [e]
    exact hw
  refine ⟨i.once, i.mem, fun u hu hr => Hang2.ext hx hr (i.hang u hu hr), ?_, hx.way i.rd i.way, fun e he hd => ?_, fun u hu hr hn g hg hfg => hx.walked (i.fin u hu hr hn g hg hfg)⟩
  · obtain ⟨X, B, h1, h2, h3⟩ := i.side
    refine ⟨X, B, ?_, h2, h3⟩
    show Df.side n es (s.mark h) s.ord.length = _
    exact (side_ext (s := s) (s' := s.mark h) s.ord.length (fun j hj => ⟨rfl, rfl⟩)).trans h1
  · by_cases e1 : e = h / 2
    · subst e1
      refine ⟨h, by omega, ?_, .inr ⟨W, ?_, ?_, ?_⟩⟩
      · rw [dir_mark b hl, if_pos rfl]
      · rw [hf]; exact hx.way i.rd i.way
      · rw [hf]; exact hin
      · rw [hf]; exact hx.rd i.rd
    · rw [dir_mark b hl, if_neg e1] at hd
      exact (i.edge e he hd).ext hx

theorem leave_at {p i : Int} : ∀ (X Y B : List Int), p ∉ X → (leave p i (X ++ p :: Y) B).1 = p :: Y
  | [], Y, B, _ => by
    show (leave p i (p :: Y) B).1 = _
    unfold leave
    rw [if_pos rfl]
  | x :: X, Y, B, h => by
    show (leave p i (x :: (X ++ p :: Y)) B).1 = _
    unfold leave
    rw [if_neg (fun e => h (by rw [e]; exact List.mem_cons_self))]
    exact leave_at X Y _ (fun hm => h (List.mem_cons_of_mem _ hm))

/-- What a new vertex changes, whatever its parent; p: its parent or -1; W: the way that it is put on. -/
theorem Inv.new {v : Nat} {x y : Int} (b : Bd n es r s) (hv : v < n) (hu : s.height v = -1) (hy : y ≠ -1)
    (once : ∀ i, i < s.ord.length → ∀ j, j < i → at_ s.ord j ≠ at_ s.ord i) (mem : ∀ v : Nat, v < n → ((v : Int) ∈ s.ord ↔ s.height v ≠ -1)) (hang : ∀ u : Nat, u < n → s.height u ≠ -1 → Hang2 es s u)
    (side : ∃ X B, Df.side n es s s.ord.length = some (X ++ W, B) ∧ (X ++ W).Nodup ∧ Rd n s (X ++ W)) (way : IsWay es s W) (edge : ∀ e, e < es.length → s.dir e ≠ -1 → Edge2 n es (s.reach v x y) e)
    (fin : ∀ u : Nat, u < n → s.height u ≠ -1 → (u : Int) ∉ W → ∀ h, h < 2 * es.length → Cs.fr es h = u → s.dir (h / 2) ≠ -1)
    (hhang : Hang2 es (s.reach v x y) v) (hup : Df.up es (s.reach v x y) v = W.headD (-1)) : Inv n es ((v : Int) :: W) (s.reach v x y) := by
  have hx := reach_ext b hv hu x y
  have hnew : (s.reach v x y).height v = y := by rw [height_reach b hv, if_pos rfl]
  have hnot : (v : Int) ∉ s.ord := fun hm => ((mem v hv).1 hm) hu
  have hoth : ∀ u : Nat, u ≠ v → (s.reach v x y).height u = s.height u := fun u e => by rw [height_reach b hv, if_neg e]
  obtain ⟨X, B, hs, hnd, hrd⟩ := side
  have hvW : (v : Int) ∉ X ++ W := fun hm => by
    obtain ⟨u, e, h1, h2⟩ := hrd _ hm
    obtain rfl : v = u := by omega
    exact h2 hu
  have hrdW : Rd n s W := fun z hz => hrd z (List.mem_append_right _ hz)
  have hatrd : ∀ i, i < s.ord.length → ∃ u : Nat, at_ s.ord i = (u : Int) ∧ u < n ∧ s.height u ≠ -1 := fun i hi => by
    have hm := at_mem hi
    have h0 := b.hd _ hm
    refine ⟨(at_ s.ord i).toNat, by omega, by omega, (mem _ (by omega)).1 ?_⟩
    rw [Int.toNat_of_nonneg h0.1]
    exact hm
  have hlen : (s.reach v x y).ord.length = s.ord.length + 1 := by simp [St.reach]
  have hat : ∀ i, i < s.ord.length → at_ (s.reach v x y).ord i = at_ s.ord i := fun i hi => at_app hi
  have hatl : at_ (s.reach v x y).ord s.ord.length = (v : Int) := at_last
  refine ⟨fun i hi j hj => ?_, fun u hun => ?_, fun u hun hr => ?_, ?_, ?_, fun e he hd => edge e he hd, fun u hun hr hn h hh hf => ?_⟩
  · rw [hlen] at hi
    by_cases e : i = s.ord.length
    · rw [e, hatl, hat j (by omega)]
      intro h
      exact hnot (h ▸ at_mem (by omega))
    · rw [hat i (by omega), hat j (by omega)]
      exact once i (by omega) j hj
  · by_cases e : u = v
    · subst e
      rw [hnew]
      exact ⟨fun _ => hy, fun _ => List.mem_append_right _ (by simp)⟩
    · rw [hoth u e, ← mem u hun]
      constructor
      · intro h
        rcases List.mem_append.1 (show (u : Int) ∈ s.ord ++ [(v : Int)] from h) with h | h
        · exact h
        · rw [List.mem_singleton] at h
          omega
      · exact fun h => List.mem_append_left _ h
  · by_cases e : u = v
    · rw [e]; exact hhang
    · rw [hoth u e] at hr
      exact Hang2.ext hx hr (hang u hun hr)
  · have hk : Df.side n es (s.reach v x y) s.ord.length = some (X ++ W, B) := by
      rw [side_ext (s := s) s.ord.length (fun j hj => ?_)]
      · exact hs
      · obtain ⟨u, e, h1, h2⟩ := hatrd j hj
        rw [hat j hj, e]
        exact ⟨rfl, hx.up h2⟩
    rw [hlen]
    have hleave : (leave (W.headD (-1)) s.ord.length (X ++ W) B).1 = W := by
      cases W with
      | nil =>
        simp only [List.headD_nil, List.append_nil]
        exact leave_none fun z hz => by
          obtain ⟨u, e, _⟩ := hrd z (by simpa using hz)
          omega
      | cons p W =>
        simp only [List.headD_cons]
        exact leave_at X W B (fun hm => (List.nodup_append.1 hnd).2.2 p hm p List.mem_cons_self rfl)
    refine ⟨[], (leave (W.headD (-1)) s.ord.length (X ++ W) B).2, ?_, ?_, ?_⟩
    · unfold Df.side
      rw [hk, Option.bind_some]
      dsimp only
      rw [hatl, hup, hleave, if_neg]
      · rfl
      · rintro ⟨h1, h2⟩
        rw [h2] at h1
        exact h1 rfl
    · refine List.nodup_cons.2 ⟨fun h => hvW (List.mem_append_right _ h), (List.nodup_append.1 hnd).2.1⟩
    · intro z hz
      rcases List.mem_cons.1 hz with rfl | hz
      · exact ⟨v, rfl, hv, by rw [hnew]; exact hy⟩
      · exact hx.rd hrdW z hz
  · exact ⟨by omega, hup, hx.way hrdW way⟩
  · have huv : u ≠ v := fun e => hn (by rw [e]; exact List.mem_cons_self)
    rw [hoth u huv] at hr
    exact hx.walked (fin u hun hr (fun hm => hn (List.mem_cons_of_mem _ hm)) h hh hf)
end

end Df
end Go.Proofs.YtalfpbalekbinaaGreat

/-
  The walk gives a depth-first forest, pure: step by step, and at the end.
-/
namespace Go.Proofs.YtalfpbalekbinaaGreat
namespace Df
section
variable {n r : Nat} {es : List (Int × Int)} {s s' : St} {W : List Int}

theorem side_mark {h k : Nat} : side n es (s.mark h) k = side n es s k := side_ext (s := s) (s' := s.mark h) k (fun _ _ => ⟨rfl, rfl⟩)

/-- A half-edge is walked to a new vertex. -/
theorem Inv.go {v h : Nat} (hval : Si.Val n es) (b : Bd n es r s) (i : Inv n es ((v : Int) :: W) s) (hl : h < 2 * es.length) (hf : Cs.fr es h = v) (hw : s.dir (h / 2) = -1) (hv : s.height (Cs.to es h) = -1) : Inv n es ((Cs.to es h : Int) :: (v : Int) :: W) (s.go es h) := by
  have hx := mark_ext b hl hw
  obtain ⟨hfn, ht⟩ := Cs.half_lt hval hl
  have bm := b.mark hl hw
  have hr : s.height v ≠ -1 := by
    obtain ⟨u, e, _, h2⟩ := i.rd v List.mem_cons_self
    obtain rfl : v = u := by omega
    exact h2
  have hy : s.height (Cs.fr es h) + 1 ≠ -1 := by
    have := (b.hh _ hfn).1
    omega
  have hv' : (s.mark h).height (Cs.to es h) = -1 := hv
  have hx2 := reach_ext bm ht hv' (h : Int) (s.height (Cs.fr es h) + 1)
  have hpar : at_ (s.go es h).par (Cs.to es h) = (h : Int) := by
    show at_ (s.par.set (Cs.to es h) (h : Int)) (Cs.to es h) = _
    rw [at_set (by rw [b.lp]; exact ht), if_pos rfl]
  have hnt : Cs.fr es h ≠ Cs.to es h := by
    intro e
    rw [← e, hf] at hv
    exact hr hv
  have hdir : (s.go es h).dir (h / 2) = (h : Int) := by
    show (s.mark h).dir (h / 2) = _
    rw [dir_mark b hl, if_pos rfl]
  have hht : (s.go es h).height (Cs.to es h) = s.height (Cs.fr es h) + 1 := by
    show ((s.mark h).reach (Cs.to es h) (h : Int) (s.height (Cs.fr es h) + 1)).height (Cs.to es h) = _
    rw [height_reach bm ht, if_pos rfl]
  have hhf : (s.go es h).height (Cs.fr es h) = s.height (Cs.fr es h) := by
    show ((s.mark h).reach (Cs.to es h) (h : Int) (s.height (Cs.fr es h) + 1)).height (Cs.fr es h) = _
    rw [height_reach bm ht, if_neg hnt]
    rfl
  refine Inv.new (s := s.mark h) (x := (h : Int)) (y := s.height (Cs.fr es h) + 1) bm ht hv' hy i.once i.mem (fun u hu hru => Hang2.ext hx hru (i.hang u hu hru)) ?_ (hx.way i.rd i.way) (fun e he hd => ?_) (fun u hu hru hn g hg hfg => hx.walked (i.fin u hu hru hn g hg hfg)) ?_ ?_
  · obtain ⟨X, B, h1, h2, h3⟩ := i.side
    exact ⟨X, B, side_mark.trans h1, h2, h3⟩
  · by_cases e1 : e = h / 2
    · subst e1
      exact ⟨h, by omega, hdir, .inl ⟨by rw [show ((s.mark h).reach (Cs.to es h) (h : Int) (s.height (Cs.fr es h) + 1)).height (Cs.to es h) = _ from hht]; exact hy, hpar⟩⟩
    · rw [dir_mark b hl, if_neg e1] at hd
      exact ((i.edge e he hd).ext hx).ext hx2
  · exact .inr ⟨h, hl, hpar, rfl, hdir, by rw [show ((s.mark h).reach (Cs.to es h) (h : Int) (s.height (Cs.fr es h) + 1)).height (Cs.fr es h) = _ from hhf, hf]; exact hr, by rw [show ((s.mark h).reach (Cs.to es h) (h : Int) (s.height (Cs.fr es h) + 1)).height (Cs.to es h) = _ from hht, show ((s.mark h).reach (Cs.to es h) (h : Int) (s.height (Cs.fr es h) + 1)).height (Cs.fr es h) = _ from hhf]⟩
  · show Cs.frI es (at_ (s.go es h).par ((Cs.to es h : Int)).toNat) = _
    rw [Int.toNat_natCast, hpar, Cs.frI_in hl, hf]
    rfl

/-- A root. -/
theorem Inv.root {v : Nat} (b : Bd n es r s) (i : Inv n es [] s) (hv : v < n) (hu : s.height v = -1) : Inv n es [(v : Int)] (s.reach v (-1) 0) := by
  have hx := reach_ext b hv hu (-1) 0
  have hpar : at_ (s.reach v (-1) 0).par v = -1 := by
    show at_ (s.par.set v (-1)) v = _
    rw [at_set (by rw [b.lp]; exact hv), if_pos rfl]
  refine Inv.new b hv hu (by omega) i.once i.mem i.hang i.side i.way (fun e he hd => (i.edge e he hd).ext hx) i.fin (.inl ⟨hpar, by rw [height_reach b hv, if_pos rfl]⟩) ?_
  show Cs.frI es (at_ (s.reach v (-1) 0).par ((v : Int)).toNat) = _
  rw [Int.toNat_natCast, hpar]
  exact Cs.frI_no (by omega)

/-- The vertex at which it stands is done. -/
theorem Inv.finish {v : Nat} (i : Inv n es ((v : Int) :: W) s) (hd : ∀ h, h < 2 * es.length → Cs.fr es h = v → s.dir (h / 2) ≠ -1) : Inv n es W s := by
  refine ⟨i.once, i.mem, i.hang, ?_, i.way.2.2, i.edge, fun u hu hr hn h hh hf => ?_⟩
  · obtain ⟨X, B, h1, h2, h3⟩ := i.side
    refine ⟨X ++ [(v : Int)], B, ?_, ?_, ?_⟩ <;> rw [List.append_assoc] <;> assumption
  · by_cases e : u = v
    · exact hd h hh (by rw [hf, e])
    · exact i.fin u hu hr (fun hm => (List.mem_cons.1 hm).elim (fun e1 => e (by omega)) hn) h hh hf

theorem out_all {v h : Nat} (hh : h < 2 * es.length) (hf : Cs.fr es h = v) : h ∈ Cs.out es v (2 * es.length) := List.mem_of_getElem? (Cs.out_at hh hf)
theorem out_fr {v h : Nat} (hh : h ∈ Cs.out es v (2 * es.length)) : h < 2 * es.length ∧ Cs.fr es h = v := by
  obtain ⟨j, hj⟩ := List.getElem?_of_mem hh
  exact ⟨(Cs.out_of hj).1, (Cs.out_of hj).2.1⟩

/-- The walk of the half-edges of one vertex keeps it, and walks them all. -/
theorem R.inv {k : Nat} {L : List Nat} (hval : Si.Val n es) (h : R es k s L s') : ∀ (v : Nat) (W : List Int), Bd n es r s → Inv n es ((v : Int) :: W) s → (∀ x ∈ L, x < 2 * es.length ∧ Cs.fr es x = v) → (∀ x, x < 2 * es.length → Cs.fr es x = v → x ∈ L ∨ s.dir (x / 2) ≠ -1) →
    Inv n es ((v : Int) :: W) s' ∧ Ext s s' ∧ ∀ x, x < 2 * es.length → Cs.fr es x = v → s'.dir (x / 2) ≠ -1 := by
  induction h with
  | nil s =>
    intro v W b i hL hF
    refine ⟨i, Ext.refl s, fun x hx hf => ?_⟩
    rcases hF x hx hf with h | h
    · simp at h
    · exact h
  | @old k s s' h L hw hr ih =>
    intro v W b i hL hF
    refine ih v W b i (fun x hx => hL x (List.mem_cons_of_mem _ hx)) (fun x hx hf => ?_)
    rcases hF x hx hf with h1 | h1
    · rcases List.mem_cons.1 h1 with rfl | h1
      · exact .inr hw
      · exact .inl h1
    · exact .inr h1
  | @back k s s' h L hw hv hr ih =>
    intro v W b i hL hF
    obtain ⟨hh, hf⟩ := hL h List.mem_cons_self
    have hx := mark_ext b hh hw
    obtain ⟨h1, h2, h3⟩ := ih v W (b.mark hh hw) (i.back hval b hh hf hw hv) (fun x hx => hL x (List.mem_cons_of_mem _ hx)) (fun x hxl hfx => by
      rcases hF x hxl hfx with h1 | h1
      · rcases List.mem_cons.1 h1 with rfl | h1
        · exact .inr (by rw [dir_mark b hh, if_pos rfl]; omega)
        · exact .inl h1
      · exact .inr (hx.walked h1))
    exact ⟨h1, hx.trans h2, h3⟩
  | @tree j k s s1 s' h L hw hv hr1 hr2 ih1 ih2 =>
    intro v W b i hL hF
    obtain ⟨hh, hf⟩ := hL h List.mem_cons_self
    have bg := b.go hval hh hw
    have hx : Ext s (s.go es h) := (mark_ext b hh hw).trans (reach_ext (b.mark hh hw) (Cs.half_lt hval hh).2 hv _ _)
    obtain ⟨i1, x1, d1⟩ := ih1 (Cs.to es h) ((v : Int) :: W) bg (i.go hval b hh hf hw hv) (fun x hx => out_fr hx) (fun x hxl hfx => .inl (out_all hxl hfx))
    have hx1 := hx.trans x1
    obtain ⟨h1, h2, h3⟩ := ih2 v W (hr1.bd hval out_half bg) (i1.finish d1) (fun x hx => hL x (List.mem_cons_of_mem _ hx)) (fun x hxl hfx => by
      rcases hF x hxl hfx with h1 | h1
      · rcases List.mem_cons.1 h1 with rfl | h1
        · refine .inr ?_
          have : (s.go es x).dir (x / 2) = (x : Int) := by
            show (s.mark x).dir (x / 2) = _
            rw [dir_mark b hh, if_pos rfl]
          rw [x1.dir _ (by rw [this]; omega), this]
          omega
        · exact .inl h1
      · exact .inr (hx1.walked h1))
    exact ⟨h1, hx1.trans h2, h3⟩

theorem getD_rep (m v : Nat) : (List.replicate m (-1 : Int)).getD v (-1) = -1 := by
  rw [List.getD_eq_getElem?_getD, List.getElem?_replicate]
  split <;> rfl

theorem Wk.inv (hval : Si.Val n es) {i : Nat} (h : Wk n es i s) : i ≤ n → Inv n es [] s ∧ ∀ v, v < i → s.height v ≠ -1 := by
  induction h with
  | zero =>
    intro _
    have hh : ∀ v, (St.start n es.length).height v = -1 := fun v => getD_rep n v
    have hd : ∀ e, (St.start n es.length).dir e = -1 := fun e => getD_rep es.length e
    refine ⟨⟨fun i hi => absurd hi (by simp [St.start]), fun v hv => ?_, fun v hv h => absurd (hh v) h, ⟨[], _, rfl, by simp, fun x hx => absurd hx (by simp)⟩, trivial, fun e he h => absurd (hd e) h, fun v hv h => absurd (hh v) h⟩, fun v hv => absurd hv (by omega)⟩
    constructor
    · intro h; simp [St.start] at h
    · exact fun h => absurd (hh v) h
  | @pass i s h hv ih =>
    intro hi
    obtain ⟨h1, h2⟩ := ih (by omega)
    refine ⟨h1, fun v hvi => ?_⟩
    by_cases e : v = i
    · rw [e]; exact hv
    · exact h2 v (by omega)
  | @walk i k s s' h hv hr ih =>
    intro hi
    obtain ⟨h1, h2⟩ := ih (by omega)
    have b := h.bd hval (by omega)
    have hx := reach_ext b (by omega : i < n) hv (-1) 0
    obtain ⟨i1, x1, d1⟩ := hr.inv hval i [] (b.root (by omega)) (h1.root b (by omega) hv) (fun x hx => out_fr hx) (fun x hxl hfx => .inl (out_all hxl hfx))
    refine ⟨i1.finish d1, fun v hvi => ?_⟩
    by_cases e : v = i
    · rw [e]
      refine x1.reached ?_
      rw [height_reach b (by omega), if_pos rfl]
      omega
    · exact (hx.trans x1).reached (h2 v (by omega))

theorem at_get {l : List Int} {i : Nat} (hi : i < l.length) : at_ l i = l[i] := by
  unfold at_
  rw [List.getD_eq_getElem?_getD, List.getElem?_eq_getElem hi]
  rfl

/-- The walk of a valid graph is a depth-first forest of it. -/
theorem Wk.vf (hval : Si.Val n es) (h : Wk n es n s) : VF n es s := by
  obtain ⟨i, hall⟩ := h.inv hval (Nat.le_refl _)
  have b := h.bd hval (Nat.le_refl _)
  have hfew := hval.few
  have hnod : s.ord.Nodup := by
    unfold List.Nodup
    rw [List.pairwise_iff_getElem]
    intro a c ha hc hac
    have := i.once c hc a hac
    rw [at_get ha, at_get hc] at this
    exact this
  have hperm : s.ord.Perm ((List.range n).map Int.ofNat) := by
    rw [List.perm_ext_iff_of_nodup hnod]
    · intro x
      constructor
      · intro hx
        have := b.hd x hx
        exact List.mem_map.2 ⟨x.toNat, List.mem_range.2 (by omega), by simp; omega⟩
      · intro hx
        obtain ⟨v, hv, rfl⟩ := List.mem_map.1 hx
        exact (i.mem v (List.mem_range.1 hv)).2 (hall v (List.mem_range.1 hv))
    · rw [List.nodup_iff_pairwise_ne, List.pairwise_map]
      refine List.Pairwise.imp ?_ List.nodup_range
      intro a c hac e
      exact hac (Int.ofNat.inj e)
  have hlen : s.ord.length = n := by rw [hperm.length_eq]; simp
  refine ⟨⟨b.lp, b.lh, hlen, b.lo⟩, fun a ha => ⟨?_, fun j hj => i.once a (by omega) j hj⟩, fun v hv => ?_, ?_, fun e he => ?_⟩
  · exact b.hd _ (at_mem (by omega))
  · rcases i.hang v hv (hall v hv) with h1 | ⟨x, h1, h2, h3, h4, h5, h6⟩
    · exact .inl h1
    · refine .inr ⟨x, h1, h2, h3, h4, ?_⟩
      have h7 := b.hh _ (Cs.half_lt hval h1).1
      rw [IntKind.wrap_i64]
      show s.height v = _
      rw [h6]
      have e : at_ s.hei (Cs.fr es x) = s.height (Cs.fr es x) := rfl
      rw [e]
      omega
  · obtain ⟨X, B, h1, _, _⟩ := i.side
    rw [hlen] at h1
    exact ⟨_, h1⟩
  · have h2 : 2 * e < 2 * es.length := by omega
    have hf := (Cs.half_lt hval h2).1
    have hd := i.fin _ hf (hall _ hf) (by simp) (2 * e) h2 rfl
    rw [show 2 * e / 2 = e by omega] at hd
    obtain ⟨x, h3, h4, h5⟩ := i.edge e he hd
    refine ⟨x, h3, h4, ?_⟩
    rcases h5 with ⟨_, h6⟩ | ⟨Y, h6, h7, _⟩
    · exact .inl h6
    · exact .inr ⟨Y, h6, h7⟩
end
end Df
end Go.Proofs.YtalfpbalekbinaaGreat
