import Derived.Test.YtmgoahbloppdmaaGreatMg02
import Derived.Test.YtmgoahbloppdmaaGreatMg33
import Derived.Test.YtmgoahbloppdmaaGreatMg01
/-
  Edges gone through one after another: the first, the last.
-/
namespace Go.Proofs.YtmgoahbloppdmaaGreat
open Go.RowKit Go.Sort

theorem Si.UpTo.first {n : Int} {es : List (Int × Int)} {l p : Int × Int} (h : Si.UpTo n es 0 l) (ho : Si.ok n p) : Si.lt l p := by
  rcases h.2.2 with ⟨_, rfl⟩ | ⟨k', hk, _⟩
  · unfold Si.ok at ho
    unfold Si.lt
    dsimp only
    omega
  · omega

theorem Si.UpTo.last {n : Int} {es : List (Int × Int)} {k : Nat} {l : Int × Int} (h : Si.UpTo n es (k + 1) l) : es[k]? = some l := by
  rcases h.2.2 with ⟨h0, _⟩ | ⟨k', hk, hl⟩
  · omega
  · obtain rfl : k = k' := by omega
    exact hl

end Go.Proofs.YtmgoahbloppdmaaGreat

/-
  Whether a graph is valid, as the document asks it.
-/
namespace Go.Proofs.YtmgoahbloppdmaaGreat
open Go.RowKit Go.Sort

set_option maxRecDepth 100000 in
set_option maxHeartbeats 8000000 in
theorem r4valid_any (n : Int) (ao : Option Addr) (cap : Nat) (es : List (Int × Int)) (w : World) (he : EdgesAt w ao es) (hl : es.length ≤ 4611686018427387904) :
    Calls Tryz.prog 27 #[graphVal n ao es.length cap] w fun e w' => e = .returned (.bool (Si.valid n es)) ∧ Below w.heap.size w w' := by
  have HE := Nu.hid he
  clear he
  unfold graphVal
  by_cases h1 : n < 0
  · have hv := Si.valid_no (n := n) (es := es) (fun h => by have := h.lo; omega)
    rw [hv]
    go_enter Tryz.func27, Tryz.ntmps27
    go_wp2
    go_ret
    exact ⟨rfl, (Below.refl _ _).alloc (Nat.le_refl _) _⟩
  by_cases h2 : 1048576 < n
  · have hv := Si.valid_no (n := n) (es := es) (fun h => by have := h.hi; omega)
    rw [hv]
    go_enter Tryz.func27, Tryz.ntmps27
    go_wp2
    go_ret
    exact ⟨rfl, (Below.refl _ _).alloc (Nat.le_refl _) _⟩
  by_cases h3 : 4194304 < (es.length : Int)
  · have hv := Si.valid_no (n := n) (es := es) (fun h => by have := h.few; omega)
    rw [hv]
    go_enter Tryz.func27, Tryz.ntmps27
    go_wp2
    go_ret
    exact ⟨rfl, (Below.refl _ _).alloc (Nat.le_refl _) _⟩
  go_enter Tryz.func27, Tryz.ntmps27
  go_wp2
  go_loopw [3] (fun c wr => ∃ (k : Nat) (l : Int × Int), k ≤ es.length ∧ c = .int .i64 k ∧ Si.UpTo n es k l ∧ wr.heap[w.heap.size]? = some (.cells #[.int .i64 n, .slice ao es.length cap] 24 (0, 0)) ∧ Below w.heap.size w wr) (fun c _ => es.length - (intOf c).toNat)
  case atStart => exact ⟨0, (0, 0), Nat.zero_le _, rfl, Si.UpTo.start n es, heap_alloc_new w _, (Below.refl _ _).alloc (Nat.le_refl _) _⟩
  case round =>
    obtain ⟨k, l, hk, rfl, hup, hgb, hb⟩ := hrel
    obtain ⟨g0, g1, -⟩ := pair_cells hgb
    have hsz0 := lt_of_block hgb
    have HGB := Nu.hid hgb
    have HUP := Nu.hid hup
    have HB := Nu.hid hb
    clear hgb hup
    by_cases hlt : k < es.length
    · have hlti : (k : Int) < (es.length : Int) := by omega
      have hk0 : (0 : Int) ≤ (k : Int) := by omega
      obtain ⟨p, hp⟩ : ∃ p, es[k]? = some p := ⟨_, List.getElem?_eq_getElem hlt⟩
      obtain ⟨b, o, rfl, c0, c1⟩ := (HE.out.later hb) k p hp
      have hbl : b < wr.heap.size := block_lt_of_cell c0
      have HP := Nu.hid hp
      clear hp
      by_cases q1 : p.1 < 0
      · have hv := Si.valid_no (n := n) (es := es) (fun h => by have := (HUP.out.must h HP.out).1.1; omega)
        clear hb
        go_wp2
        go_ret
        exact ⟨by first | rfl | exact congrArg (fun b => Ending.returned (.bool b)) hv.symm, HB.out.alloc (by omega) _⟩
      by_cases q2 : p.1 < p.2
      rotate_left
      · have hv := Si.valid_no (n := n) (es := es) (fun h => by have := (HUP.out.must h HP.out).1.2.1; omega)
        clear hb
        go_wp2
        go_ret
        exact ⟨by first | rfl | exact congrArg (fun b => Ending.returned (.bool b)) hv.symm, HB.out.alloc (by omega) _⟩
      by_cases q3 : p.2 < n
      rotate_left
      · have hv := Si.valid_no (n := n) (es := es) (fun h => by have := (HUP.out.must h HP.out).1.2.2; omega)
        clear hb
        go_wp2
        go_ret
        exact ⟨by first | rfl | exact congrArg (fun b => Ending.returned (.bool b)) hv.symm, HB.out.alloc (by omega) _⟩
      have hok : Si.ok n p := ⟨by omega, q2, q3⟩
      have hbA : Below wr.heap.size wr (wr.alloc (.cells #[.int .i64 p.1, .int .i64 p.2] 47)) := (Below.refl _ _).alloc (Nat.le_refl _) _
      by_cases hkz : k = 0
      · have hkn : ¬ ((0 : Int) < (k : Int)) := by omega
        have hlt0 : Si.lt l p := by
          have := HUP.out
          rw [hkz] at this
          exact this.first hok
        have HST := Nu.hid (HUP.out.step HP.out hok hlt0)
        have HBA := Nu.hid (HB.out.trans (hbA.mono HB.out.size))
        have HG2 := Nu.hid ((hbA.block _ hsz0).trans HGB.out)
        clear hok hbA hb hkz hlt0
        go_wp2
        go_roundw
        case rel => exact ⟨k + 1, p, by omega, by go_num, HST.out, HG2.out, HBA.out⟩
        case measure => simp [intOf]; omega
      · obtain ⟨k', hk'⟩ : ∃ k', k = k' + 1 := ⟨k - 1, by omega⟩
        have hl' : es[k']? = some l := by
          have := HUP.out
          rw [hk'] at this
          exact this.last
        obtain ⟨b2, o2, e2, d0, d1⟩ := (HE.out.later hb) k' l hl'
        cases e2
        have hk1 : (k : Int) - 1 = (k' : Int) := by omega
        have hkw : IntKind.i64.wrap (k' : Int) = (k' : Int) := by simp [IntKind.wrap, IntKind.bits, IntKind.signed]; omega
        have hk'0 : (0 : Int) ≤ (k' : Int) := by omega
        have hk'l : (k' : Int) < (es.length : Int) := by omega
        have hkp : (0 : Int) < (k : Int) := by omega
        have HK := Nu.hid hk'
        clear hk' hl' hkz hb
        have HBA := Nu.hid (HB.out.trans ((hbA.trans (((Below.refl _ _).alloc (Nat.le_refl _) (.cells #[.int .i64 l.1, .int .i64 l.2] 47)).mono (by simp))).mono HB.out.size))
        have HG2 := Nu.hid (((hbA.trans (((Below.refl _ _).alloc (Nat.le_refl _) (.cells #[.int .i64 l.1, .int .i64 l.2] 47)).mono (by simp))).block _ hsz0).trans HGB.out)
        clear hbA
        rcases Int.lt_trichotomy l.1 p.1 with r1 | r1 | r1
        · have q4 : Si.lt l p := .inl r1
          have r2 : ¬ (p.1 < l.1) := by omega
          have r3 : (l.1 == p.1) = false := by simp; omega
          have HST := Nu.hid (HUP.out.step HP.out hok q4)
          clear q4 hok
          go_wp2
          go_roundw
          case rel => exact ⟨k + 1, p, by omega, by go_num, HST.out, HG2.out, HBA.out⟩
          case measure => simp [intOf]; omega
        · have r2 : ¬ (p.1 < l.1) := by omega
          have r3 : (l.1 == p.1) = true := by simp [r1]
          by_cases r4 : l.2 < p.2
          · have q4 : Si.lt l p := .inr ⟨r1, r4⟩
            have r5 : ¬ (p.2 ≤ l.2) := by omega
            have HST := Nu.hid (HUP.out.step HP.out hok q4)
            clear q4 hok r1
            go_wp2
            go_roundw
            case rel => exact ⟨k + 1, p, by omega, by go_num, HST.out, HG2.out, HBA.out⟩
            case measure => simp [intOf]; omega
          · have hv := Si.valid_no (n := n) (es := es) (fun h => by have := (HUP.out.must h HP.out).2; unfold Si.lt at this; omega)
            have HV := Nu.hid hv
            have r5 : p.2 ≤ l.2 := by omega
            clear hv hok r1
            go_wp2
            go_ret
            exact ⟨by rw [HV.out]; rfl, HBA.out⟩
        · have hv := Si.valid_no (n := n) (es := es) (fun h => by have := (HUP.out.must h HP.out).2; unfold Si.lt at this; omega)
          have HV := Nu.hid hv
          clear hv hok
          go_wp2
          go_ret
          exact ⟨by rw [HV.out]; rfl, HBA.out⟩
    · have hd : ¬ ((k : Int) < (es.length : Int)) := by omega
      obtain rfl : k = es.length := by omega
      have hv := Si.valid_iff.2 (HUP.out.done (by omega) (by omega) (by omega))
      have HV := Nu.hid hv
      clear hb hv
      go_wp2
      go_ret
      exact ⟨by rw [HV.out]; rfl, HB.out⟩

end Go.Proofs.YtmgoahbloppdmaaGreat

/-
  The document's Valid.
-/
namespace Go.Proofs.YtmgoahbloppdmaaGreat
open Go.RowKit

section
variable {w : World} {n : Nat} {ao : Option Addr} {ca : Nat} {es : List (Int × Int)} {f : For} {s : Df.St}

/-- A question that is answered yes. -/
theorem BoolPost.yes {P : Prop} {w : World} {fn : FuncId} {args : Array Value} (h : Calls Tryz.prog fn args w (BoolPost P w)) (hp : P) : Calls Tryz.prog fn args w fun e w' => e = .returned (.bool true) ∧ Below w.heap.size w w' := h.mono (by
  rintro e w' ⟨b, rfl, h1, h2⟩
  exact ⟨by rw [h1.2 hp], h2⟩)
theorem BoolPost.no {P : Prop} {w : World} {fn : FuncId} {args : Array Value} (h : Calls Tryz.prog fn args w (BoolPost P w)) (hp : ¬ P) : Calls Tryz.prog fn args w fun e w' => e = .returned (.bool false) ∧ Below w.heap.size w w' := h.mono (by
  rintro e w' ⟨b, rfl, h1, h2⟩
  cases b with
  | true => exact absurd (h1.1 rfl) hp
  | false => exact ⟨rfl, h2⟩)

set_option maxRecDepth 100000 in
set_option maxHeartbeats 16000000 in
theorem rdvalid_any (n : Int) (ao : Option Addr) (ca : Nat) (es : List (Int × Int)) (f : For) (s : Df.St) (w : World) (he : EdgesAt w ao es) (hl : es.length ≤ 4611686018427387904) (hF : LstF w f s) :
    Calls Tryz.prog 16 #[graphVal n ao es.length ca, f.val s] w (BoolPost (IsVF n es s) w) := by
  by_cases hval : Si.Val n es
  · obtain ⟨m, rfl⟩ : ∃ m : Nat, n = (m : Int) := ⟨n.toNat, by have := hval.lo; omega⟩
    obtain ⟨W, hW⟩ : ∃ W, W = bxw w m ao ca es f s := ⟨_, rfl⟩
    have hbx : BxAt w W m ao ca es f s := by rw [hW]; exact BxAt.new
    have HBX := Nu.hid hbx
    have hvf : IsVF m es s ↔ Df.VF m es s := by
      constructor
      · rintro ⟨m', e, _, h⟩
        obtain rfl : m = m' := by omega
        exact h
      · exact fun h => ⟨m, rfl, hval, h⟩
    have hrv := r4valid_any m ao ca es W (he.later hbx.bel) hl
    have e0 : Si.valid m es = true := by unfold Si.valid; simp [hval]
    rw [e0] at hrv
    unfold graphVal at hrv ⊢
    rw [show BoolPost (IsVF m es s) w = BoolPost (Df.VF m es s) w from by rw [hvf]]
    have HRV := Nu.hid hrv
    have HC0 : Hid (∀ V, BxAt w V m ao ca es f s → V.cell? ⟨w.heap.size, 0, none⟩ = some (.int .i64 m) ∧ V.cell? ⟨w.heap.size, 1, none⟩ = some (.slice ao es.length ca) ∧ V.cell? ⟨w.heap.size + 1, 0, none⟩ = some (.slice f.a1 s.par.length f.c1) ∧ V.cell? ⟨w.heap.size + 1, 1, none⟩ = some (.slice f.a2 s.hei.length f.c2) ∧ V.cell? ⟨w.heap.size + 1, 2, none⟩ = some (.slice f.a3 s.ord.length f.c3) ∧ V.cell? ⟨w.heap.size + 1, 3, none⟩ = some (.slice f.a4 s.ori.length f.c4)) := fun V h => ⟨h.x0, h.x1, h.k0, h.k1, h.k2, h.k3⟩
    by_cases hL : Df.Lens m es s
    · have HVF : Hid (Df.VF m es s ↔ Df.Hang m es s ∧ (Df.Once m s m ∧ ∃ q, Df.side m es s m = some q) ∧ ∀ e, e < es.length → Df.Edge1 es s e) := ⟨fun h => ⟨h.hang, ⟨h.once, h.side⟩, h.edge⟩, fun h => ⟨hL, h.2.1.1, h.1, h.2.1.2, h.2.2⟩⟩
      have fargs : f.val s = .agg #[.slice f.a1 s.par.length f.c1, .slice f.a2 s.hei.length f.c2, .slice f.a3 s.ord.length f.c3, .slice f.a4 s.ori.length f.c4] := rfl
      have HHG : Hid (∀ V, BxAt w V m ao ca es f s → Calls Tryz.prog 28 #[.agg #[.int .i64 (m : Int), .slice ao es.length ca], f.val s] V (BoolPost (Df.Hang m es s) V)) := fun V hV => rhangs_any (he.later hV.bel) hval (hF.later hV.bel) hL
      have HRT : Hid (∀ V, BxAt w V m ao ca es f s → Calls Tryz.prog 29 #[.agg #[.int .i64 (m : Int), .slice ao es.length ca], f.val s] V (BoolPost (Df.Rooted m s) V)) := fun V hV => rrooted_any (hF.later hV.bel) hL
      have HRO : Hid ((Df.Once m s m ∧ ∃ q, Df.side m es s m = some q) → Df.Hang m es s → Df.Rooted m s) := fun h1 h2 => Df.rooted_of hval h1.1 h2 h1.2
      have HOR : Hid (Df.Hang m es s → ∀ V, BxAt w V m ao ca es f s → Calls Tryz.prog 30 #[.agg #[.int .i64 (m : Int), .slice ao es.length ca], f.val s] V (BoolPost (Df.Once m s m ∧ ∃ q, Df.side m es s m = some q) V)) := fun hh V hV => rordered_any (he.later hV.bel) hval (hF.later hV.bel) hL hh
      have HLD : Hid (Df.Hang m es s → Df.Rooted m s → (Df.Once m s m ∧ ∃ q, Df.side m es s m = some q) → ∀ V, BxAt w V m ao ca es f s → Calls Tryz.prog 31 #[.agg #[.int .i64 (m : Int), .slice ao es.length ca], f.val s] V (BoolPost (∀ e, e < es.length → Df.Edge1 es s e) V)) := fun hh hr ho V hV => rleads_any (he.later hV.bel) hval (hF.later hV.bel) hL hh hr ho.1 ho.2
      obtain ⟨l1, l2, l3, l4⟩ := hL
      obtain ⟨a1, a2, a3, a4, c1, c2, c3, c4⟩ := f
      unfold For.val at HHG HRT HOR HLD ⊢
      unfold bxw at hW
      dsimp only at hW HHG HRT HOR HLD HC0 ⊢
      rw [l1, l2, l3, l4] at hW HHG HRT HOR HLD HC0 ⊢
      have HC := HC0
      have HW := Nu.hid hW
      obtain ⟨z00, z01, z02, z03, z04, z05⟩ := HC.out _ hbx
      have HQ0 := HBX
      rw [hW] at z00 z01 z02 z03 z04 z05
      clear hF hW hbx he hrv hvf HC0 hval e0 fargs
      by_cases hh : Df.Hang m es s
      · have H1 : Hid (∀ V, BxAt w V m ao ca es ⟨a1, a2, a3, a4, c1, c2, c3, c4⟩ s → Calls Tryz.prog 28 #[.agg #[.int .i64 (m : Int), .slice ao es.length ca], .agg #[.slice a1 m c1, .slice a2 m c2, .slice a3 m c3, .slice a4 es.length c4]] V fun e w' => e = .returned (.bool true) ∧ Below V.heap.size V w') := fun V hV => BoolPost.yes (HHG.out V hV) hh
        by_cases hr : Df.Rooted m s
        · have H2 : Hid (∀ V, BxAt w V m ao ca es ⟨a1, a2, a3, a4, c1, c2, c3, c4⟩ s → Calls Tryz.prog 29 #[.agg #[.int .i64 (m : Int), .slice ao es.length ca], .agg #[.slice a1 m c1, .slice a2 m c2, .slice a3 m c3, .slice a4 es.length c4]] V fun e w' => e = .returned (.bool true) ∧ Below V.heap.size V w') := fun V hV => BoolPost.yes (HRT.out V hV) hr
          by_cases ho : Df.Once m s m ∧ ∃ q, Df.side m es s m = some q
          · have H3 : Hid (∀ V, BxAt w V m ao ca es ⟨a1, a2, a3, a4, c1, c2, c3, c4⟩ s → Calls Tryz.prog 30 #[.agg #[.int .i64 (m : Int), .slice ao es.length ca], .agg #[.slice a1 m c1, .slice a2 m c2, .slice a3 m c3, .slice a4 es.length c4]] V fun e w' => e = .returned (.bool true) ∧ Below V.heap.size V w') := fun V hV => BoolPost.yes (HOR.out hh V hV) ho
            by_cases hd : ∀ e, e < es.length → Df.Edge1 es s e
            · have H4 : Hid (∀ V, BxAt w V m ao ca es ⟨a1, a2, a3, a4, c1, c2, c3, c4⟩ s → Calls Tryz.prog 31 #[.agg #[.int .i64 (m : Int), .slice ao es.length ca], .agg #[.slice a1 m c1, .slice a2 m c2, .slice a3 m c3, .slice a4 es.length c4]] V fun e w' => e = .returned (.bool true) ∧ Below V.heap.size V w') := fun V hV => BoolPost.yes (HLD.out hh hr ho V hV) hd
              have HYES : Hid (Df.VF m es s) := HVF.out.2 ⟨hh, ho, hd⟩
              clear hh hr ho hd HHG HRT HOR HLD
              go_enter Tryz.func16, Tryz.ntmps16
              go_wp2_with (first | (go_at_call 27; rw [← HW.out]; refine HRV.out.mono ?_; rintro e V1 ⟨rfl, hv1⟩; have hq1 := HQ0.out.later hv1; have HQ1 := Nu.hid hq1; obtain ⟨z10, z11, z12, z13, z14, z15⟩ := HC.out _ hq1; clear hv1 hq1) | (go_at_call 28; refine (H1.out _ HQ1.out).mono ?_; rintro e V2 ⟨rfl, hv2⟩; have hq2 := HQ1.out.later hv2; have HQ2 := Nu.hid hq2; obtain ⟨z20, z21, z22, z23, z24, z25⟩ := HC.out _ hq2; clear hv2 hq2) | (go_at_call 29; refine (H2.out _ HQ2.out).mono ?_; rintro e V3 ⟨rfl, hv3⟩; have hq3 := HQ2.out.later hv3; have HQ3 := Nu.hid hq3; obtain ⟨z30, z31, z32, z33, z34, z35⟩ := HC.out _ hq3; clear hv3 hq3) | (go_at_call 30; refine (H3.out _ HQ3.out).mono ?_; rintro e V4 ⟨rfl, hv4⟩; have hq4 := HQ3.out.later hv4; have HQ4 := Nu.hid hq4; obtain ⟨z40, z41, z42, z43, z44, z45⟩ := HC.out _ hq4; clear hv4 hq4) | (go_at_call 31; refine (H4.out _ HQ4.out).mono ?_; rintro e V5 ⟨rfl, hv5⟩; have hq5 := HQ4.out.later hv5; have HQ5 := Nu.hid hq5; obtain ⟨z50, z51, z52, z53, z54, z55⟩ := HC.out _ hq5; clear hv5 hq5))
              go_ret
              exact ⟨true, rfl, ⟨fun _ => HYES.out, fun _ => rfl⟩, HQ5.out.bel⟩

            · have H4 : Hid (∀ V, BxAt w V m ao ca es ⟨a1, a2, a3, a4, c1, c2, c3, c4⟩ s → Calls Tryz.prog 31 #[.agg #[.int .i64 (m : Int), .slice ao es.length ca], .agg #[.slice a1 m c1, .slice a2 m c2, .slice a3 m c3, .slice a4 es.length c4]] V fun e w' => e = .returned (.bool false) ∧ Below V.heap.size V w') := fun V hV => BoolPost.no (HLD.out hh hr ho V hV) hd
              have HNO : Hid (¬ Df.VF m es s) := fun h => hd (HVF.out.1 h).2.2
              clear hh hr ho hd HHG HRT HOR HLD
              go_enter Tryz.func16, Tryz.ntmps16
              go_wp2_with (first | (go_at_call 27; rw [← HW.out]; refine HRV.out.mono ?_; rintro e V1 ⟨rfl, hv1⟩; have hq1 := HQ0.out.later hv1; have HQ1 := Nu.hid hq1; obtain ⟨z10, z11, z12, z13, z14, z15⟩ := HC.out _ hq1; clear hv1 hq1) | (go_at_call 28; refine (H1.out _ HQ1.out).mono ?_; rintro e V2 ⟨rfl, hv2⟩; have hq2 := HQ1.out.later hv2; have HQ2 := Nu.hid hq2; obtain ⟨z20, z21, z22, z23, z24, z25⟩ := HC.out _ hq2; clear hv2 hq2) | (go_at_call 29; refine (H2.out _ HQ2.out).mono ?_; rintro e V3 ⟨rfl, hv3⟩; have hq3 := HQ2.out.later hv3; have HQ3 := Nu.hid hq3; obtain ⟨z30, z31, z32, z33, z34, z35⟩ := HC.out _ hq3; clear hv3 hq3) | (go_at_call 30; refine (H3.out _ HQ3.out).mono ?_; rintro e V4 ⟨rfl, hv4⟩; have hq4 := HQ3.out.later hv4; have HQ4 := Nu.hid hq4; obtain ⟨z40, z41, z42, z43, z44, z45⟩ := HC.out _ hq4; clear hv4 hq4) | (go_at_call 31; refine (H4.out _ HQ4.out).mono ?_; rintro e V5 ⟨rfl, hv5⟩; have hq5 := HQ4.out.later hv5; have HQ5 := Nu.hid hq5; obtain ⟨z50, z51, z52, z53, z54, z55⟩ := HC.out _ hq5; clear hv5 hq5))
              go_ret
              exact ⟨false, rfl, ⟨fun h => (by cases h), fun h => absurd h HNO.out⟩, HQ5.out.bel⟩

          · have H3 : Hid (∀ V, BxAt w V m ao ca es ⟨a1, a2, a3, a4, c1, c2, c3, c4⟩ s → Calls Tryz.prog 30 #[.agg #[.int .i64 (m : Int), .slice ao es.length ca], .agg #[.slice a1 m c1, .slice a2 m c2, .slice a3 m c3, .slice a4 es.length c4]] V fun e w' => e = .returned (.bool false) ∧ Below V.heap.size V w') := fun V hV => BoolPost.no (HOR.out hh V hV) ho
            have HNO : Hid (¬ Df.VF m es s) := fun h => ho (HVF.out.1 h).2.1
            clear hh hr ho HHG HRT HOR HLD
            go_enter Tryz.func16, Tryz.ntmps16
            go_wp2_with (first | (go_at_call 27; rw [← HW.out]; refine HRV.out.mono ?_; rintro e V1 ⟨rfl, hv1⟩; have hq1 := HQ0.out.later hv1; have HQ1 := Nu.hid hq1; obtain ⟨z10, z11, z12, z13, z14, z15⟩ := HC.out _ hq1; clear hv1 hq1) | (go_at_call 28; refine (H1.out _ HQ1.out).mono ?_; rintro e V2 ⟨rfl, hv2⟩; have hq2 := HQ1.out.later hv2; have HQ2 := Nu.hid hq2; obtain ⟨z20, z21, z22, z23, z24, z25⟩ := HC.out _ hq2; clear hv2 hq2) | (go_at_call 29; refine (H2.out _ HQ2.out).mono ?_; rintro e V3 ⟨rfl, hv3⟩; have hq3 := HQ2.out.later hv3; have HQ3 := Nu.hid hq3; obtain ⟨z30, z31, z32, z33, z34, z35⟩ := HC.out _ hq3; clear hv3 hq3) | (go_at_call 30; refine (H3.out _ HQ3.out).mono ?_; rintro e V4 ⟨rfl, hv4⟩; have hq4 := HQ3.out.later hv4; have HQ4 := Nu.hid hq4; obtain ⟨z40, z41, z42, z43, z44, z45⟩ := HC.out _ hq4; clear hv4 hq4))
            go_ret
            exact ⟨false, rfl, ⟨fun h => (by cases h), fun h => absurd h HNO.out⟩, HQ4.out.bel⟩

        · have H2 : Hid (∀ V, BxAt w V m ao ca es ⟨a1, a2, a3, a4, c1, c2, c3, c4⟩ s → Calls Tryz.prog 29 #[.agg #[.int .i64 (m : Int), .slice ao es.length ca], .agg #[.slice a1 m c1, .slice a2 m c2, .slice a3 m c3, .slice a4 es.length c4]] V fun e w' => e = .returned (.bool false) ∧ Below V.heap.size V w') := fun V hV => BoolPost.no (HRT.out V hV) hr
          have HNO : Hid (¬ Df.VF m es s) := fun h => hr (HRO.out (HVF.out.1 h).2.1 hh)
          clear hh hr HHG HRT HOR HLD
          go_enter Tryz.func16, Tryz.ntmps16
          go_wp2_with (first | (go_at_call 27; rw [← HW.out]; refine HRV.out.mono ?_; rintro e V1 ⟨rfl, hv1⟩; have hq1 := HQ0.out.later hv1; have HQ1 := Nu.hid hq1; obtain ⟨z10, z11, z12, z13, z14, z15⟩ := HC.out _ hq1; clear hv1 hq1) | (go_at_call 28; refine (H1.out _ HQ1.out).mono ?_; rintro e V2 ⟨rfl, hv2⟩; have hq2 := HQ1.out.later hv2; have HQ2 := Nu.hid hq2; obtain ⟨z20, z21, z22, z23, z24, z25⟩ := HC.out _ hq2; clear hv2 hq2) | (go_at_call 29; refine (H2.out _ HQ2.out).mono ?_; rintro e V3 ⟨rfl, hv3⟩; have hq3 := HQ2.out.later hv3; have HQ3 := Nu.hid hq3; obtain ⟨z30, z31, z32, z33, z34, z35⟩ := HC.out _ hq3; clear hv3 hq3))
          go_ret
          exact ⟨false, rfl, ⟨fun h => (by cases h), fun h => absurd h HNO.out⟩, HQ3.out.bel⟩

      · have H1 : Hid (∀ V, BxAt w V m ao ca es ⟨a1, a2, a3, a4, c1, c2, c3, c4⟩ s → Calls Tryz.prog 28 #[.agg #[.int .i64 (m : Int), .slice ao es.length ca], .agg #[.slice a1 m c1, .slice a2 m c2, .slice a3 m c3, .slice a4 es.length c4]] V fun e w' => e = .returned (.bool false) ∧ Below V.heap.size V w') := fun V hV => BoolPost.no (HHG.out V hV) hh
        have HNO : Hid (¬ Df.VF m es s) := fun h => hh (HVF.out.1 h).1
        clear hh HHG HRT HOR HLD
        go_enter Tryz.func16, Tryz.ntmps16
        go_wp2_with (first | (go_at_call 27; rw [← HW.out]; refine HRV.out.mono ?_; rintro e V1 ⟨rfl, hv1⟩; have hq1 := HQ0.out.later hv1; have HQ1 := Nu.hid hq1; obtain ⟨z10, z11, z12, z13, z14, z15⟩ := HC.out _ hq1; clear hv1 hq1) | (go_at_call 28; refine (H1.out _ HQ1.out).mono ?_; rintro e V2 ⟨rfl, hv2⟩; have hq2 := HQ1.out.later hv2; have HQ2 := Nu.hid hq2; obtain ⟨z20, z21, z22, z23, z24, z25⟩ := HC.out _ hq2; clear hv2 hq2))
        go_ret
        exact ⟨false, rfl, ⟨fun h => (by cases h), fun h => absurd h HNO.out⟩, HQ2.out.bel⟩

    · have HNO : Hid (¬ Df.VF m es s) := fun h => hL h.lens
      obtain ⟨a1, a2, a3, a4, c1, c2, c3, c4⟩ := f
      unfold For.val
      unfold bxw at hW
      dsimp only at hW HC0 ⊢
      have HC := HC0
      have HW := Nu.hid hW
      obtain ⟨z00, z01, z02, z03, z04, z05⟩ := HC.out _ hbx
      have HQ0 := HBX
      rw [hW] at z00 z01 z02 z03 z04 z05
      clear hF hW hbx he hrv hvf HC0 hval e0
      unfold Df.Lens at hL
      obtain ⟨p1, h1⟩ : ∃ p, s.par.length = p := ⟨_, rfl⟩
      obtain ⟨p2, h2⟩ : ∃ p, s.hei.length = p := ⟨_, rfl⟩
      obtain ⟨p3, h3⟩ : ∃ p, s.ord.length = p := ⟨_, rfl⟩
      obtain ⟨p4, h4⟩ : ∃ p, s.ori.length = p := ⟨_, rfl⟩
      rw [h1, h2, h3, h4] at hL HC HW z02 z03 z04 z05 ⊢
      clear h1 h2 h3 h4
      by_cases g1 : p1 = m
      · by_cases g2 : p2 = m
        · by_cases g3 : p3 = m
          · have g4 : p4 ≠ es.length := fun h => hL ⟨g1, g2, g3, h⟩
            have t1 : ((p1 : Int) != (m : Int)) = false := by simp [g1]
            have t2 : ((p2 : Int) != (m : Int)) = false := by simp [g2]
            have t3 : ((p3 : Int) != (m : Int)) = false := by simp [g3]
            have t4 : ((p4 : Int) != (es.length : Int)) = true := by simp; omega
            clear hL g1 g2 g3 g4
            go_enter Tryz.func16, Tryz.ntmps16
            go_wp2_with (go_at_call 27; rw [← HW.out]; refine HRV.out.mono ?_; rintro e V1 ⟨rfl, hv1⟩; have hq1 := HQ0.out.later hv1; have HQ1 := Nu.hid hq1; obtain ⟨z10, z11, z12, z13, z14, z15⟩ := HC.out _ hq1; clear hv1 hq1)
            go_ret
            exact ⟨false, rfl, ⟨fun h => (by cases h), fun h => absurd h HNO.out⟩, HQ1.out.bel⟩
          · have t1 : ((p1 : Int) != (m : Int)) = false := by simp [g1]
            have t2 : ((p2 : Int) != (m : Int)) = false := by simp [g2]
            have t3 : ((p3 : Int) != (m : Int)) = true := by simp; omega
            clear hL g1 g2 g3
            go_enter Tryz.func16, Tryz.ntmps16
            go_wp2_with (go_at_call 27; rw [← HW.out]; refine HRV.out.mono ?_; rintro e V1 ⟨rfl, hv1⟩; have hq1 := HQ0.out.later hv1; have HQ1 := Nu.hid hq1; obtain ⟨z10, z11, z12, z13, z14, z15⟩ := HC.out _ hq1; clear hv1 hq1)
            go_ret
            exact ⟨false, rfl, ⟨fun h => (by cases h), fun h => absurd h HNO.out⟩, HQ1.out.bel⟩
        · have t1 : ((p1 : Int) != (m : Int)) = false := by simp [g1]
          have t2 : ((p2 : Int) != (m : Int)) = true := by simp; omega
          clear hL g1 g2
          go_enter Tryz.func16, Tryz.ntmps16
          go_wp2_with (go_at_call 27; rw [← HW.out]; refine HRV.out.mono ?_; rintro e V1 ⟨rfl, hv1⟩; have hq1 := HQ0.out.later hv1; have HQ1 := Nu.hid hq1; obtain ⟨z10, z11, z12, z13, z14, z15⟩ := HC.out _ hq1; clear hv1 hq1)
          go_ret
          exact ⟨false, rfl, ⟨fun h => (by cases h), fun h => absurd h HNO.out⟩, HQ1.out.bel⟩
      · have t1 : ((p1 : Int) != (m : Int)) = true := by simp; omega
        clear hL g1
        go_enter Tryz.func16, Tryz.ntmps16
        go_wp2_with (go_at_call 27; rw [← HW.out]; refine HRV.out.mono ?_; rintro e V1 ⟨rfl, hv1⟩; have hq1 := HQ0.out.later hv1; have HQ1 := Nu.hid hq1; obtain ⟨z10, z11, z12, z13, z14, z15⟩ := HC.out _ hq1; clear hv1 hq1)
        go_ret
        exact ⟨false, rfl, ⟨fun h => (by cases h), fun h => absurd h HNO.out⟩, HQ1.out.bel⟩
  · have HNO : Hid (¬ IsVF n es s) := fun ⟨m, e, h, _⟩ => hval (by rw [e]; exact h)
    obtain ⟨a1, a2, a3, a4, c1, c2, c3, c4⟩ := f
    obtain ⟨W, hW⟩ : ∃ W, W = (w.alloc (.cells #[.int .i64 n, .slice ao es.length ca] 24)).alloc (.cells #[.slice a1 s.par.length c1, .slice a2 s.hei.length c2, .slice a3 s.ord.length c3, .slice a4 s.ori.length c4] 27) := ⟨_, rfl⟩
    have hB0 : Below w.heap.size w W := by rw [hW]; exact ((Below.refl _ _).alloc (Nat.le_refl _) _).alloc (by simp) _
    have g1 : W.heap[w.heap.size]? = some (.cells #[.int .i64 n, .slice ao es.length ca] 24 (0, 0)) := by
      rw [hW, Below.heap_alloc _ _ _ (by simp)]
      exact heap_alloc_new w _
    have hrv := r4valid_any n ao ca es W (he.later hB0) hl
    have e0 : Si.valid n es = false := by unfold Si.valid; simp [hval]
    rw [e0] at hrv
    unfold graphVal at hrv ⊢
    unfold For.val
    dsimp only
    have HRV := Nu.hid hrv
    have HB0 := Nu.hid hB0
    have HW := Nu.hid hW
    obtain ⟨x0, x1, -⟩ := pair_cells g1
    rw [hW] at x0 x1
    clear hrv hB0 g1 he hW hF hval e0
    go_enter Tryz.func16, Tryz.ntmps16
    go_wp2_with (go_at_call 27; rw [← HW.out]; refine HRV.out.mono ?_; rintro e V1 ⟨rfl, hv1⟩; have HB1 := Nu.hid hv1; clear hv1)
    go_ret
    exact ⟨false, rfl, ⟨fun h => (by cases h), fun h => absurd h HNO.out⟩, HB0.out.trans (HB1.out.mono HB0.out.size)⟩
end

end Go.Proofs.YtmgoahbloppdmaaGreat

/-
  The order of edges as the document asks it.
-/
namespace Go.Proofs.YtmgoahbloppdmaaGreat
open Go.RowKit Go.Sort

set_option maxHeartbeats 1000000 in
theorem less_any (a b : Int × Int) (w : World) : Calls Tryz.prog 26 #[edgeVal a, edgeVal b] w fun e w' => e = .returned (.bool (decide (Si.lt a b))) ∧ ∃ q os', w' = grow (w.drewN q) os' := by
  unfold edgeVal
  by_cases h1 : a.1 < b.1
  · have hd : decide (Si.lt a b) = true := by simp [Si.lt, h1]
    rw [hd]
    go_enter Tryz.func26, Tryz.ntmps26
    go_wp2
    go_ret
    exact ⟨rfl, 0, _, by rw [alloc_eq_grow, alloc_eq_grow, grow_grow]; rfl⟩
  · by_cases h2 : a.1 = b.1
    · by_cases h3 : a.2 < b.2
      · have hd : decide (Si.lt a b) = true := by simp [Si.lt, h2, h3]
        rw [hd]
        go_enter Tryz.func26, Tryz.ntmps26
        go_wp2
        go_ret
        exact ⟨rfl, 0, _, by rw [alloc_eq_grow, alloc_eq_grow, grow_grow]; rfl⟩
      · have hd : decide (Si.lt a b) = false := by simp [Si.lt, h1, h3]
        rw [hd]
        go_enter Tryz.func26, Tryz.ntmps26
        go_wp2
        go_ret
        exact ⟨rfl, 0, _, by rw [alloc_eq_grow, alloc_eq_grow, grow_grow]; rfl⟩
    · have hd : decide (Si.lt a b) = false := by simp [Si.lt, h1, h2]
      rw [hd]
      go_enter Tryz.func26, Tryz.ntmps26
      go_wp2
      go_ret
      exact ⟨rfl, 0, _, by rw [alloc_eq_grow, alloc_eq_grow, grow_grow]; rfl⟩

theorem grown_of_grow {w w' : World} (h : ∃ (q : Nat) (os' : Array Obj), w' = grow (w.drewN q) os') : Below w.heap.size w w' := by
  obtain ⟨q, os', rfl⟩ := h
  exact grow_below w q os'

end Go.Proofs.YtmgoahbloppdmaaGreat
