import Derived.Test.YtmgoahbloppdmaaGreatMg29
import Derived.Test.YtmgoahbloppdmaaGreatMg11
import Derived.Test.YtmgoahbloppdmaaGreatMg07
import Derived.Test.YtmgoahbloppdmaaGreatMg08
/-
  The document's tree and above of layer 8.
-/
namespace Go.Proofs.YtmgoahbloppdmaaGreat
open Go.RowKit

section
variable {w : World} {n : Nat} {ao : Option Addr} {ca : Nat} {es : List (Int × Int)} {f : For} {s : Df.St}

set_option maxRecDepth 100000 in
set_option maxHeartbeats 16000000 in
theorem r8tree_any (e : Nat) (he : EdgesAt w ao es) (hv : Si.Val n es) (hF : LstF w f s) (hVF : Df.VF n es s) (hel : e < es.length) :
    Calls Tryz.prog 42 #[.agg #[.int .i64 (n : Int), .slice ao es.length ca], f.val s, .int .i64 (e : Int)] w fun r w' => r = .returned (.bool (Lo.tree es s e)) ∧ Below w.heap.size w w' := by
  obtain ⟨l1, l2, l3, l4⟩ := hVF.lens
  have hends := Lo.ends_lt hv hVF hel
  obtain ⟨W, hW⟩ : ∃ W, W = bxw w n ao ca es f s := ⟨_, rfl⟩
  have hbx : BxAt w W n ao ca es f s := by rw [hW]; exact BxAt.new
  have HBX := Nu.hid hbx
  have HEN := Nu.hid (r8ends_any (ca := ca) e (he.later hbx.bel) hv (hF.later hbx.bel) hVF hel)
  have HF : Hid (∀ V, BxAt w V n ao ca es f s → LstF V f s) := fun V hV => hF.later hV.bel
  obtain ⟨t, ht⟩ : ∃ t, Lo.go_ es s e = t := ⟨_, rfl⟩
  obtain ⟨u, hu⟩ : ∃ u, Lo.fr es s e = u := ⟨_, rfl⟩
  have HTR : Hid (Lo.tree es s e = true ↔ Df.at_ s.par t = Df.at_ s.ori e) := by
    unfold Lo.tree
    rw [ht]
    exact decide_eq_true_iff
  rw [ht] at hends
  rw [ht, hu] at HEN
  have x0 := hbx.x0
  have x1 := hbx.x1
  have k0 := hbx.k0
  have k1 := hbx.k1
  have k2 := hbx.k2
  have k3 := hbx.k3
  obtain ⟨a1, a2, a3, a4, c1, c2, c3, c4⟩ := f
  unfold For.val at HEN ⊢
  unfold bxw at hW
  dsimp only at hW HEN k0 k1 k2 k3 ⊢
  rw [l1, l2, l3, l4] at hW HEN ⊢
  rw [l1] at k0
  rw [l2] at k1
  rw [l3] at k2
  rw [l4] at k3
  have HW := Nu.hid hW
  rw [hW] at x0 x1 k0 k1 k2 k3
  have v0 : (0 : Int) ≤ (e : Int) := by omega
  have v1 : (e : Int) < (es.length : Int) := by omega
  have t0 : (0 : Int) ≤ (t : Int) := by omega
  have t1 : (t : Int) < (n : Int) := by omega
  clear hF hW hbx he hv hVF ht hu
  go_enter Tryz.func42, Tryz.ntmps42
  go_wp2_with (go_at_call 18; rw [← HW.out]; refine HEN.out.mono ?_; rintro r w1 ⟨rfl, hb1⟩; refine Hid.out ?_)
  refine Nu.hid ?_
  have hq := HBX.out.later hb1
  have hFw := HF.out w1 hq
  obtain ⟨b1, o1, e1, d1⟩ := lst_at hFw.l1 (i := t) (by omega)
  obtain ⟨b4, o4, e4, d4⟩ := lst_at hFw.l4 (i := e) (by omega)
  dsimp only at e1 e4
  subst e1
  subst e4
  have k0 := hq.k0
  have k3 := hq.k3
  dsimp only at k0 k3
  rw [l1] at k0
  rw [l4] at k3
  have HQ := Nu.hid hq
  obtain ⟨x, hx⟩ : ∃ x, s.par.getD t (-1) = x := ⟨_, rfl⟩
  obtain ⟨y, hy⟩ : ∃ y, s.ori.getD e (-1) = y := ⟨_, rfl⟩
  rw [hx] at d1
  rw [hy] at d4
  have HR : Hid (Lo.tree es s e = (x == y)) := by
    have h := HTR.out
    rw [show Df.at_ s.par t = x from hx, show Df.at_ s.ori e = y from hy] at h
    exact Bool.eq_iff_iff.2 (h.trans beq_iff_eq.symm)
  clear hq hFw hx hy hb1 x0 x1 k1 k2
  go_wp2_with fail
  go_quiet (fail)
  go_wp2
  go_ret
  exact ⟨congrArg (fun b => Ending.returned (Value.bool b)) HR.out.symm, (HQ.out.drewN _).bel⟩

set_option maxRecDepth 100000 in
set_option maxHeartbeats 16000000 in
theorem r8above_any (u v : Nat) (he : EdgesAt w ao es) (hv : Si.Val n es) (hF : LstF w f s) (hVF : Df.VF n es s) (hun : u < n) (hvn : v < n) :
    Calls Tryz.prog 43 #[.agg #[.int .i64 (n : Int), .slice ao es.length ca], f.val s, .int .i64 (u : Int), .int .i64 (v : Int)] w (BoolPost (Df.Anc es s u v) w) := by
  obtain ⟨⟨X0, B0⟩, hs'⟩ := hVF.side
  obtain ⟨Y, hway, -, hrange⟩ := Df.way_of (es := es) hVF.once hs' hvn
  have hr := Df.rooted_of hv hVF.once hVF.hang hVF.side
  obtain ⟨l1, l2, l3, l4⟩ := hVF.lens
  obtain ⟨W, hW⟩ : ∃ W, W = bxw w n ao ca es f s := ⟨_, rfl⟩
  have hbx : BxAt w W n ao ca es f s := by rw [hW]; exact BxAt.new
  have HBX := Nu.hid hbx
  have HF : Hid (∀ V, BxAt w V n ao ca es f s → LstF V f s) := fun V hV => hF.later hV.bel
  have HEN : Hid (∀ V (k : Nat), BxAt w V n ao ca es f s → k < es.length → Calls Tryz.prog 18 #[.agg #[.int .i64 (n : Int), .slice ao es.length ca], .agg #[.slice f.a1 s.par.length f.c1, .slice f.a2 s.hei.length f.c2, .slice f.a3 s.ord.length f.c3, .slice f.a4 s.ori.length f.c4], .int .i64 (k : Int)] V fun r w' => r = .returned (.tuple #[.int .i64 (Lo.fr es s k : Int), .int .i64 (Lo.go_ es s k : Int)]) ∧ Below V.heap.size V w') := fun V k hV hk => r8ends_any (f := f) k (he.later hV.bel) hv (hF.later hV.bel) hVF hk
  have HUC : Hid (∀ z : Nat, z < n → (Df.at_ s.par z = -1 ∧ Df.up es s z = -1) ∨ ∃ x y : Nat, y < n ∧ x < 2 * es.length ∧ Df.at_ s.par z = (x : Int) ∧ Df.up es s z = (y : Int) ∧ Lo.fr es s (x / 2) = y ∧ Df.at_ s.hei z = Df.at_ s.hei y + 1) := fun z hz => by
    rcases hVF.hang z hz with ⟨h1, _⟩ | ⟨x, h1, h2, h3, h4, h5⟩
    · refine .inl ⟨h1, ?_⟩
      unfold Df.up
      rw [Int.toNat_natCast, h1]
      exact Cs.frI_no (by omega)
    · have hy := (Cs.half_lt hv h1).1
      refine .inr ⟨x, Cs.fr es x, hy, h1, h2, ?_, ?_, ?_⟩
      · unfold Df.up
        rw [Int.toNat_natCast, h2]
        exact Cs.frI_in h1
      · unfold Lo.fr Lo.oh
        rw [h4, Int.toNat_natCast]
      · have h6 := hr _ hy
        rw [h5, IntKind.wrap_i64]
        have := hv.hi
        omega
  have HRD := Nu.hid hr
  have HWAY := Nu.hid hway
  have hn1 := hv.hi
  have hfew := hv.few
  obtain ⟨a1, a2, a3, a4, c1, c2, c3, c4⟩ := f
  unfold For.val
  unfold bxw at hW
  dsimp only at hW HEN ⊢
  rw [l1, l2, l3, l4] at hW HEN ⊢
  have HW := Nu.hid hW
  clear hF hW hbx he hv hVF hr hs' hway hrange
  go_enter Tryz.func43, Tryz.ntmps43
  go_wp2_with fail
  rw [← HW.out]
  go_loopw [3] (fun c wr => ∃ z : Nat, c = .int .i64 (z : Int) ∧ z < n ∧ Hid (∃ X Z, (v : Int) :: Y = X ++ (z : Int) :: Z ∧ (u : Int) ∉ X ∧ Df.up es s z = Z.headD (-1)) ∧ BxAt w wr n ao ca es ⟨a1, a2, a3, a4, c1, c2, c3, c4⟩ s) (fun c _ => hme s (intOf c))
  case atStart => exact ⟨v, rfl, hvn, ⟨[], Y, rfl, by simp, HWAY.out.2.1⟩, HBX.out⟩
  case round =>
    obtain ⟨z, rfl, hz, HZ, hb⟩ := hrel
    have HB := Nu.hid hb
    have x0 := hb.x0
    have x1 := hb.x1
    have k0 := hb.k0
    have k1 := hb.k1
    have k2 := hb.k2
    have k3 := hb.k3
    dsimp only at k0 k1 k2 k3
    rw [l1] at k0
    rw [l2] at k1
    rw [l3] at k2
    rw [l4] at k3
    have z0 : (0 : Int) ≤ (z : Int) := by omega
    have z1 : (z : Int) < (n : Int) := by omega
    by_cases huz : z = u
    · subst huz
      have t1 : ((z : Int) != (z : Int)) = false := by simp
      have t2 : ((z : Int) == (z : Int)) = true := by simp
      clear hb
      go_wp2
      go_ret
      refine ⟨true, rfl, ⟨fun _ => ?_, fun _ => rfl⟩, HB.out.bel⟩
      obtain ⟨X, Z, h1, _⟩ := HZ.out
      rw [Df.Anc.iff HWAY.out, h1]
      simp
    · have t1 : ((z : Int) != (u : Int)) = true := by simp; omega
      have t2 : ((z : Int) == (u : Int)) = false := by simp; omega
      have HUZ := Nu.hid huz
      obtain ⟨b1, o1, e1, d1⟩ := lst_at (HF.out wr hb).l1 (i := z) (by omega)
      dsimp only at e1
      subst e1
      rcases HUC.out z hz with ⟨hp, hup⟩ | ⟨x, y, hy, hx, hp, hup, hfr, hhe⟩
      · rw [show s.par.getD z (-1) = -1 from hp] at d1
        have HNO : Hid (¬ Df.Anc es s u v) := fun ha => by
          obtain ⟨X, Z, h1, h2, h3⟩ := HZ.out
          rw [Df.Anc.iff HWAY.out, h1] at ha
          have hZ : Z = [] := by
            cases Z with
            | nil => rfl
            | cons q Z =>
              have h4 := HWAY.out
              rw [h1] at h4
              have := h4.tail.2.2.1
              rw [hup] at h3
              simp at h3
              omega
          rw [hZ] at ha
          rcases List.mem_append.1 ha with h5 | h5
          · exact h2 h5
          · simp at h5
            omega
        clear hb huz
        go_wp2
        go_ret
        exact ⟨false, rfl, ⟨fun h => (by cases h), fun h => absurd h HNO.out⟩, HB.out.bel⟩
      · rw [show s.par.getD z (-1) = _ from hp] at d1
        obtain ⟨k, hk⟩ : ∃ k, x / 2 = k := ⟨_, rfl⟩
        have hkl : k < es.length := by omega
        have htd : (x : Int).tdiv 2 = (k : Int) := by rw [Int.tdiv_eq_ediv_of_nonneg (by omega)]; omega
        have htd2 : (x : Int) / 2 = (k : Int) := by omega
        have hkw : IntKind.i64.wrap (k : Int) = (k : Int) := by rw [IntKind.wrap_i64]; omega
        have hx0 : (0 : Int) ≤ (x : Int) := by omega
        rw [hk] at hfr
        have HEK : Hid (∀ V, BxAt w V n ao ca es ⟨some ⟨b1, o1, none⟩, a2, a3, a4, c1, c2, c3, c4⟩ s → Calls Tryz.prog 18 #[.agg #[.int .i64 (n : Int), .slice ao es.length ca], .agg #[.slice (some ⟨b1, o1, none⟩) n c1, .slice a2 n c2, .slice a3 n c3, .slice a4 es.length c4], .int .i64 (k : Int)] V fun r w' => r = .returned (.tuple #[.int .i64 (y : Int), .int .i64 (Lo.go_ es s k : Int)]) ∧ Below V.heap.size V w') := fun V hV => by
          have := HEN.out V k hV hkl
          rw [hfr] at this
          exact this
        have HL : Hid (∀ V, Below wr.heap.size wr V → BxAt w V n ao ca es ⟨some ⟨b1, o1, none⟩, a2, a3, a4, c1, c2, c3, c4⟩ s ∧ V.cell? ⟨w.heap.size, 0, none⟩ = some (.int .i64 n) ∧ V.cell? ⟨w.heap.size, 1, none⟩ = some (.slice ao es.length ca) ∧ V.cell? ⟨w.heap.size + 1, 0, none⟩ = some (.slice (some ⟨b1, o1, none⟩) n c1) ∧ V.cell? ⟨w.heap.size + 1, 1, none⟩ = some (.slice a2 n c2) ∧ V.cell? ⟨w.heap.size + 1, 2, none⟩ = some (.slice a3 n c3) ∧ V.cell? ⟨w.heap.size + 1, 3, none⟩ = some (.slice a4 es.length c4) ∧ V.cell? ⟨b1, o1 + z, none⟩ = some (.int .i64 (x : Int))) := fun V hV => by
          have hq := hb.later hV
          have q0 := hq.k0
          have q1 := hq.k1
          have q2 := hq.k2
          have q3 := hq.k3
          dsimp only at q0 q1 q2 q3
          rw [l1] at q0
          rw [l2] at q1
          rw [l3] at q2
          rw [l4] at q3
          exact ⟨hq, hq.x0, hq.x1, q0, q1, q2, q3, (hV.cell (p := ⟨b1, _, none⟩) (block_lt_of_cell d1)).trans d1⟩
        have hbd : Below wr.heap.size wr wr.drew := (Below.refl _ _).drew
        have HUP := Nu.hid hup
        have HHE := Nu.hid hhe
        clear hb huz hp hup hfr hhe hk
        go_wp2_with fail
        go_region_held3 (fun V => V.cell? ⟨w.heap.size, 0, none⟩ = some (.int .i64 n) ∧ V.cell? ⟨w.heap.size, 1, none⟩ = some (.slice ao es.length ca) ∧ V.cell? ⟨w.heap.size + 1, 0, none⟩ = some (.slice (some ⟨b1, o1, none⟩) n c1) ∧ V.cell? ⟨w.heap.size + 1, 1, none⟩ = some (.slice a2 n c2) ∧ V.cell? ⟨w.heap.size + 1, 2, none⟩ = some (.slice a3 n c3) ∧ V.cell? ⟨w.heap.size + 1, 3, none⟩ = some (.slice a4 es.length c4) ∧ V.cell? ⟨b1, o1 + z, none⟩ = some (.int .i64 (x : Int)))
          (exact (HL.out _ (by first | assumption | exact hbd)).2)
          ((go_at_call 18; refine (HEK.out _ (HL.out _ (by first | assumption | exact hbd)).1).mono ?_; rintro e V1 ⟨rfl, hv1⟩; have hb1 : Below wr.heap.size wr V1 := Below.trans (by first | assumption | exact hbd) (hv1.mono (Below.size (by first | assumption | exact hbd)))))
        all_goals
          have HB1 := Nu.hid (HL.out _ hb1).1
          clear hb1 hv1
          go_wp2
          go_roundw
          case rel =>
            refine ⟨y, rfl, hy, ?_, HB1.out⟩
            obtain ⟨X, Z, h1, h2, h3⟩ := HZ.out
            rw [HUP.out] at h3
            cases Z with
            | nil => exact absurd h3 (by simp)
            | cons q Z =>
              have hq : (y : Int) = q := by simpa using h3
              subst hq
              have h4 := HWAY.out
              rw [h1] at h4
              refine ⟨X ++ [(z : Int)], Z, by rw [h1]; simp, ?_, h4.tail.2.2.2.1⟩
              intro hm
              rcases List.mem_append.1 hm with hm | hm
              · exact h2 hm
              · rw [List.mem_singleton] at hm
                have := HUZ.out
                omega
          case measure =>
            have h0 := (HRD.out y hy).1
            simp only [intOf]
            rw [hme_at, hme_at, HHE.out]
            omega
end

end Go.Proofs.YtmgoahbloppdmaaGreat

/-
  The document's out of layer 8: the return edges of an edge.
-/
namespace Go.Proofs.YtmgoahbloppdmaaGreat
open Go.RowKit

/-- The return edges below k. -/
noncomputable def Lo.retTo (es : List (Int × Int)) (s : Df.St) (e k : Nat) : List Nat := (List.range k).filter (Lo.isRet es s e)
theorem Lo.retTo_yes {es : List (Int × Int)} {s : Df.St} {e k : Nat} (h : Lo.isRet es s e k = true) : Lo.retTo es s e (k + 1) = Lo.retTo es s e k ++ [k] := by
  unfold Lo.retTo
  rw [List.range_succ, List.filter_append]
  simp [h]
theorem Lo.retTo_no {es : List (Int × Int)} {s : Df.St} {e k : Nat} (h : Lo.isRet es s e k = false) : Lo.retTo es s e (k + 1) = Lo.retTo es s e k := by
  unfold Lo.retTo
  rw [List.range_succ, List.filter_append]
  simp [h]
theorem Lo.retTo_len (es : List (Int × Int)) (s : Df.St) (e k : Nat) : (Lo.retTo es s e k).length ≤ k := by
  unfold Lo.retTo
  have := List.length_filter_le (Lo.isRet es s e) (List.range k)
  simpa using this

/-- What out answers: a list of one's own. -/
def OutPost8 (l : List Nat) (w : World) (r : Ending) (w' : World) : Prop := ∃ v, r = .returned v ∧ OwnZ w' w.heap.size v (zs l) ∧ Below w.heap.size w w'

section
variable {w : World} {n : Nat} {ao : Option Addr} {ca : Nat} {es : List (Int × Int)} {f : For} {s : Df.St}

set_option maxRecDepth 100000 in
set_option maxHeartbeats 16000000 in
theorem r8out_any (e : Nat) (he : EdgesAt w ao es) (hv : Si.Val n es) (hF : LstF w f s) (hVF : Df.VF n es s) (hel : e < es.length) :
    Calls Tryz.prog 23 #[.agg #[.int .i64 (n : Int), .slice ao es.length ca], f.val s, .int .i64 (e : Int)] w (OutPost8 (Lo.rets es s e) w) := by
  obtain ⟨j0, hj, hj0, hj1, hj2⟩ := info_parts Tryz.infoNum
  obtain ⟨l1, l2, l3, l4⟩ := hVF.lens
  have hfew := hv.few
  have hends := Lo.ends_lt hv hVF hel
  obtain ⟨W, hW⟩ : ∃ W, W = bxw w n ao ca es f s := ⟨_, rfl⟩
  have hbx : BxAt w W n ao ca es f s := by rw [hW]; exact BxAt.new
  have HBX := Nu.hid hbx
  have HF : Hid (∀ V, BxAt w V n ao ca es f s → LstF V f s) := fun V hV => hF.later hV.bel
  have HEL : Hid (∀ b, b < es.length → Lo.fr es s b < n ∧ Lo.go_ es s b < n) := fun b hb => Lo.ends_lt hv hVF hb
  have HEN : Hid (∀ V (k : Nat), BxAt w V n ao ca es f s → k < es.length → Calls Tryz.prog 18 #[.agg #[.int .i64 (n : Int), .slice ao es.length ca], .agg #[.slice f.a1 s.par.length f.c1, .slice f.a2 s.hei.length f.c2, .slice f.a3 s.ord.length f.c3, .slice f.a4 s.ori.length f.c4], .int .i64 (k : Int)] V fun r w' => r = .returned (.tuple #[.int .i64 (Lo.fr es s k : Int), .int .i64 (Lo.go_ es s k : Int)]) ∧ Below V.heap.size V w') := fun V k hV hk => r8ends_any (f := f) k (he.later hV.bel) hv (hF.later hV.bel) hVF hk
  have HTR : Hid (∀ V (k : Nat), BxAt w V n ao ca es f s → k < es.length → Calls Tryz.prog 42 #[.agg #[.int .i64 (n : Int), .slice ao es.length ca], .agg #[.slice f.a1 s.par.length f.c1, .slice f.a2 s.hei.length f.c2, .slice f.a3 s.ord.length f.c3, .slice f.a4 s.ori.length f.c4], .int .i64 (k : Int)] V fun r w' => r = .returned (.bool (Lo.tree es s k)) ∧ Below V.heap.size V w') := fun V k hV hk => r8tree_any (f := f) k (he.later hV.bel) hv (hF.later hV.bel) hVF hk
  have HAB : Hid (∀ V (u v : Nat), BxAt w V n ao ca es f s → u < n → v < n → Calls Tryz.prog 43 #[.agg #[.int .i64 (n : Int), .slice ao es.length ca], .agg #[.slice f.a1 s.par.length f.c1, .slice f.a2 s.hei.length f.c2, .slice f.a3 s.ord.length f.c3, .slice f.a4 s.ori.length f.c4], .int .i64 (u : Int), .int .i64 (v : Int)] V (BoolPost (Df.Anc es s u v) V)) := fun V u v hV hu hv' => r8above_any (f := f) u v (he.later hV.bel) hv (hF.later hV.bel) hVF hu hv'
  obtain ⟨a1, a2, a3, a4, c1, c2, c3, c4⟩ := f
  unfold For.val
  unfold bxw at hW
  have x0 := hbx.x0
  have x1 := hbx.x1
  have k0 := hbx.k0
  have k1 := hbx.k1
  have k2 := hbx.k2
  have k3 := hbx.k3
  dsimp only at hW HEN HTR HAB k0 k1 k2 k3 ⊢
  rw [l1, l2, l3, l4] at hW HEN HTR HAB ⊢
  rw [l1] at k0
  rw [l2] at k1
  rw [l3] at k2
  rw [l4] at k3
  have HW := Nu.hid hW
  have HT0 := Nu.hid (HTR.out W e hbx hel)
  rw [hW] at x0 x1 k0 k1 k2 k3
  clear hF hW hbx he hv hVF
  cases hte : Lo.tree es s e with
  | false =>
    rw [hte] at HT0
    have HR : Hid (Lo.rets es s e = [e]) := Lo.rets_back hte
    clear hte
    go_enter Tryz.func23, Tryz.ntmps23
    go_wp2_with (go_at_call 42; rw [← HW.out]; refine HT0.out.mono ?_; rintro r w1 ⟨rfl, hb1⟩; have HB1 := Nu.hid (HBX.out.later hb1).bel; clear hb1)
    go_ret
    refine ⟨_, rfl, ?_, HB1.out.alloc HB1.out.size _⟩
    rw [HR.out]
    have h1 : (w1.alloc (.cells #[.int .i64 (e : Int)] 3)).heap[w1.heap.size]? = some (.cells #[.int .i64 (e : Int)] 3 (0, 0)) := heap_alloc_new w1 _
    exact ⟨rfl, .inr ⟨w1.heap.size, 1, #[.int .i64 (e : Int)], rfl, HB1.out.size, h1, Nat.le_refl 1, by unfold maxLen; omega, rfl, rfl⟩⟩
  | true =>
    rw [hte] at HT0
    have HR : Hid (Lo.rets es s e = Lo.retTo es s e es.length) := by
      have h : Lo.rets es s e = Lo.retTo es s e es.length := by
        unfold Lo.rets
        rw [if_pos hte]
        rfl
      exact h
    clear hte
    go_enter Tryz.func23, Tryz.ntmps23
    go_wp2_with (go_at_call 42; rw [← HW.out]; refine HT0.out.mono ?_; rintro r w1 ⟨rfl, hb1⟩; refine Hid.out ?_)
    refine Nu.hid ?_
    have hq1 := HBX.out.later hb1
    have HE1 := Nu.hid (HEN.out w1 e hq1 hel)
    have HQ1 := Nu.hid hq1
    have x0 := hq1.x0
    have x1 := hq1.x1
    have k0 := hq1.k0
    have k1 := hq1.k1
    have k2 := hq1.k2
    have k3 := hq1.k3
    dsimp only at k0 k1 k2 k3
    rw [l1] at k0
    rw [l2] at k1
    rw [l3] at k2
    rw [l4] at k3
    clear hq1 hb1
    go_wp2_with (go_at_call 18; refine HE1.out.mono ?_; rintro r w2 ⟨rfl, hb2⟩; have HQ2 := Nu.hid (HQ1.out.later hb2); clear hb2)
    clear x0 x1 k0 k1 k2 k3
    go_loopw [9, 10] (fun c9 c10 wr => ∃ k : Nat, k ≤ es.length ∧ c10 = .int .i64 (k : Int) ∧ OwnZ wr (w.heap.size + 2) c9 (zs (Lo.retTo es s e k)) ∧ BxAt w wr n ao ca es ⟨a1, a2, a3, a4, c1, c2, c3, c4⟩ s) (fun _ c10 _ => es.length - (intOf c10).toNat)
    case atStart => exact ⟨0, Nat.zero_le _, rfl, OwnZ.nil _ _, HQ2.out⟩
    case round =>
      obtain ⟨k, hk, rfl, hown, hb⟩ := hrel
      have HOWN := Nu.hid hown
      have HB := Nu.hid hb
      have x0 := hb.x0
      have x1 := hb.x1
      by_cases hlt : k < es.length
      · have hlti : (k : Int) < (es.length : Int) := by omega
        have HLT := Nu.hid hlt
        obtain ⟨hfk, hgk⟩ := HEL.out k hlt
        obtain ⟨hfe, hge⟩ := hends
        have HEK := Nu.hid (HEN.out wr k hb hlt)
        have HTK := Nu.hid (fun V hV => HTR.out V k hV hlt)
        have HAK := Nu.hid (fun V hV => HAB.out V (Lo.go_ es s e) (Lo.fr es s k) hV hge hfk)
        have hlst := (HF.out wr hb).l2
        obtain ⟨b2, o2, e2, -⟩ := lst_at hlst (i := Lo.go_ es s k) (by omega)
        dsimp only at e2
        subst e2
        have hcell : ∀ V, Below wr.heap.size wr V → ∀ i, i < n → V.cell? ⟨b2, o2 + i, none⟩ = some (.int .i64 (Df.at_ s.hei i)) := fun V hV i hi => by
          obtain ⟨b', o', e', d'⟩ := lst_at (HF.out V (hb.later hV)).l2 (i := i) (by omega)
          cases e'
          exact d'
        obtain ⟨x, hx⟩ : ∃ x, Df.at_ s.hei (Lo.go_ es s k) = x := ⟨_, rfl⟩
        obtain ⟨y, hy⟩ : ∃ y, Df.at_ s.hei (Lo.fr es s e) = y := ⟨_, rfl⟩
        have hret : Lo.isRet es s e k = true ↔ Lo.tree es s k = false ∧ x < y ∧ Df.Anc es s (Lo.go_ es s e) (Lo.fr es s k) := by
          unfold Lo.isRet Lo.ht Lo.hf
          rw [hx, hy]
          simp
        have hct := fun V hV => hcell V hV _ hgk
        have hcv := fun V hV => hcell V hV _ hfe
        rw [hx] at hct
        rw [hy] at hcv
        obtain ⟨t, ht⟩ : ∃ t, Lo.go_ es s k = t := ⟨_, rfl⟩
        obtain ⟨u, hu⟩ : ∃ u, Lo.fr es s k = u := ⟨_, rfl⟩
        obtain ⟨v, hv⟩ : ∃ v, Lo.fr es s e = v := ⟨_, rfl⟩
        obtain ⟨q, hq⟩ : ∃ q, Lo.go_ es s e = q := ⟨_, rfl⟩
        rw [ht, hu] at HEK
        rw [hq, hu] at HAK hret
        rw [ht] at hct hgk
        rw [hv] at hcv hfe
        rw [hq] at hge
        rw [hu] at hfk
        rw [hv, hq]
        have HL : Hid (∀ V, Below wr.heap.size wr V → BxAt w V n ao ca es ⟨a1, some ⟨b2, o2, none⟩, a3, a4, c1, c2, c3, c4⟩ s ∧ V.cell? ⟨w.heap.size, 0, none⟩ = some (.int .i64 n) ∧ V.cell? ⟨w.heap.size, 1, none⟩ = some (.slice ao es.length ca) ∧ V.cell? ⟨w.heap.size + 1, 0, none⟩ = some (.slice a1 n c1) ∧ V.cell? ⟨w.heap.size + 1, 1, none⟩ = some (.slice (some ⟨b2, o2, none⟩) n c2) ∧ V.cell? ⟨w.heap.size + 1, 2, none⟩ = some (.slice a3 n c3) ∧ V.cell? ⟨w.heap.size + 1, 3, none⟩ = some (.slice a4 es.length c4) ∧ V.cell? ⟨b2, o2 + t, none⟩ = some (.int .i64 x) ∧ V.cell? ⟨b2, o2 + v, none⟩ = some (.int .i64 y)) := fun V hV => by
          have hz := hb.later hV
          have q0 := hz.k0
          have q1 := hz.k1
          have q2 := hz.k2
          have q3 := hz.k3
          dsimp only at q0 q1 q2 q3
          rw [l1] at q0
          rw [l2] at q1
          rw [l3] at q2
          rw [l4] at q3
          exact ⟨hz, hz.x0, hz.x1, q0, q1, q2, q3, hct V hV, hcv V hV⟩
        have HRET := Nu.hid hret
        have t0 : (0 : Int) ≤ (t : Int) := by omega
        have t1 : (t : Int) < (n : Int) := by omega
        have v0 : (0 : Int) ≤ (v : Int) := by omega
        have v1 : (v : Int) < (n : Int) := by omega
        obtain ⟨-, y0, y1, y2, y3, y4, y5, y6, y7⟩ := HL.out wr (Below.refl _ _)
        clear hown hb hret hct hcv hcell hx hy ht hu hv hq hlst hfk hgk hfe hge x0 x1 hlt
        go_wp2_with (go_at_call 18; refine HEK.out.mono ?_; rintro r w3 ⟨rfl, hb3⟩; refine Hid.out ?_)
        refine Nu.hid ?_
        have HB3 := Nu.hid hb3
        have HTD : Hid (∀ D : LW w3, BxAt w D.val n ao ca es ⟨a1, some ⟨b2, o2, none⟩, a3, a4, c1, c2, c3, c4⟩ s) := fun D => (HL.out D.val (HB3.out.trans (D.h.mono HB3.out.size))).1
        clear hb3 y0 y1 y2 y3 y4 y5 y6 y7
        have y0 : ∀ D : LW w3, D.val.cell? ⟨w.heap.size, 0, none⟩ = some (.int .i64 n) := fun D => (HL.out D.val (HB3.out.trans (D.h.mono HB3.out.size))).2.1
        have y1 : ∀ D : LW w3, D.val.cell? ⟨w.heap.size, 1, none⟩ = some (.slice ao es.length ca) := fun D => (HL.out D.val (HB3.out.trans (D.h.mono HB3.out.size))).2.2.1
        have y2 : ∀ D : LW w3, D.val.cell? ⟨w.heap.size + 1, 0, none⟩ = some (.slice a1 n c1) := fun D => (HL.out D.val (HB3.out.trans (D.h.mono HB3.out.size))).2.2.2.1
        have y3 : ∀ D : LW w3, D.val.cell? ⟨w.heap.size + 1, 1, none⟩ = some (.slice (some ⟨b2, o2, none⟩) n c2) := fun D => (HL.out D.val (HB3.out.trans (D.h.mono HB3.out.size))).2.2.2.2.1
        have y4 : ∀ D : LW w3, D.val.cell? ⟨w.heap.size + 1, 2, none⟩ = some (.slice a3 n c3) := fun D => (HL.out D.val (HB3.out.trans (D.h.mono HB3.out.size))).2.2.2.2.2.1
        have y5 : ∀ D : LW w3, D.val.cell? ⟨w.heap.size + 1, 3, none⟩ = some (.slice a4 es.length c4) := fun D => (HL.out D.val (HB3.out.trans (D.h.mono HB3.out.size))).2.2.2.2.2.2.1
        have y6 : ∀ D : LW w3, D.val.cell? ⟨b2, o2 + t, none⟩ = some (.int .i64 x) := fun D => (HL.out D.val (HB3.out.trans (D.h.mono HB3.out.size))).2.2.2.2.2.2.2.1
        have y7 : ∀ D : LW w3, D.val.cell? ⟨b2, o2 + v, none⟩ = some (.int .i64 y) := fun D => (HL.out D.val (HB3.out.trans (D.h.mono HB3.out.size))).2.2.2.2.2.2.2.2
        have hne := LW.any w3
        cases htk : Lo.tree es s k with
        | true =>
          rw [htk] at HTK
          have HNO : Hid (Lo.isRet es s e k = false) := by
            have h : Lo.isRet es s e k = false := by
              rw [← Bool.not_eq_true, HRET.out, htk]
              simp
            exact h
          clear htk
          go_wp2_with fail
          refine wp_region_lw (by kernel_rfl) (by kernel_rfl) ?_
          repeat (go_big_quiet_step ((first | (go_at_call 42; exact Calls.lw (HTK.out _ (HTD.out _))))))
          refine wpQuiet_nil ?_
          rintro _ ⟨D, rfl⟩
          have HBD := Nu.hid (HTD.out D)
          have HOD : Hid (OwnZ D.val (w.heap.size + 2) u9 (zs (Lo.retTo es s e k))) := HOWN.out.later (HB3.out.trans (D.h.mono HB3.out.size))
          clear y0 y1 y2 y3 y4 y5 y6 y7
          go_wp2
          go_roundw
          case rel => exact ⟨k + 1, by have := HLT.out; omega, by go_num, by rw [Lo.retTo_no HNO.out]; exact HOD.out, HBD.out⟩
          case measure => simp [intOf]; omega
        | false =>
          rw [htk] at HTK
          by_cases hxy : x < y
          · by_cases ha : Df.Anc es s q u
            · have HYES : Hid (Lo.isRet es s e k = true) := HRET.out.2 ⟨htk, hxy, ha⟩
              have HAN : Hid (∀ V, BxAt w V n ao ca es ⟨a1, some ⟨b2, o2, none⟩, a3, a4, c1, c2, c3, c4⟩ s → Calls Tryz.prog 43 #[.agg #[.int .i64 (n : Int), .slice ao es.length ca], .agg #[.slice a1 n c1, .slice (some ⟨b2, o2, none⟩) n c2, .slice a3 n c3, .slice a4 es.length c4], .int .i64 (q : Int), .int .i64 (u : Int)] V fun e w' => e = .returned (.bool true) ∧ Below V.heap.size V w') := fun V hV => (HAK.out V hV).mono (by
                rintro r w' ⟨b, rfl, h1, h2⟩
                exact ⟨by rw [h1.2 ha], h2⟩)
              clear htk ha
              go_wp2_with fail
              refine wp_region_lw (by kernel_rfl) (by kernel_rfl) ?_
              repeat (go_big_quiet_step ((first | (go_at_call 42; exact Calls.lw (HTK.out _ (HTD.out _))) | (go_at_call 43; exact Calls.lw (HAN.out _ (HTD.out _))))))
              refine wpQuiet_nil ?_
              rintro _ ⟨D, rfl⟩
              have HBD := Nu.hid (HTD.out D)
              have HOD : Hid (OwnZ D.val (w.heap.size + 2) u9 (zs (Lo.retTo es s e k))) := HOWN.out.later (HB3.out.trans (D.h.mono HB3.out.size))
              clear y0 y1 y2 y3 y4 y5 y6 y7
              have HROW : Hid (D.val.ownsRow (w.heap.size + 2) 3 1 u9 (zs (Lo.retTo es s e k)).length ((zs (Lo.retTo es s e k)).map (Value.int .i64))) := HOD.out
              have hlen : (zs (Lo.retTo es s e k)).length ≤ k := by unfold zs; rw [List.length_map]; exact Lo.retTo_len es s e k
              have hszD : w.heap.size + 2 ≤ D.val.heap.size := lt_of_block HBD.out.k
              go_wp2_with (at_builtin; refine Hid.out ?_)
              refine Nu.hid ?_
              refine wpList_append_own_at _ rfl _ _ 25 rfl (w.heap.size + 2) 3 j0 (.int .i64 0) 1 8 Tryz.underlying25 hj hj0 hj1 hj2 rfl (by decide) _ _ _ rfl (World.ownsRow.alloc HROW.out _) ⟨D.val.heap.size, 0, none⟩ 1 1 [.int .i64 (k : Int)] rfl rfl (cell_one_new _ _ _) (by simp [Value.oneCell']) (by unfold maxLen; omega) (by omega) (by rw [World.size_alloc]; omega) ?_
              intro v' w4 hown4 hg4 _ hat4
              have hb4 : Below w.heap.size w w4 := (HBD.out.bel.alloc HBD.out.bel.size _).grown hg4 (by rw [World.size_alloc]; omega) (fun b hb => by
                have := (HOD.out.lt hb).1
                omega)
              have hkeep : ∀ b, b < w.heap.size + 2 → w4.heap[b]? = D.val.heap[b]? := fun b hb => by
                rw [hg4.block b (by rw [World.size_alloc]; omega) (fun e => by have := (HOD.out.lt e.symm).1; omega)]
                exact Below.heap_alloc D.val _ b (by omega)
              have hbx4 : BxAt w w4 n ao ca es ⟨a1, some ⟨b2, o2, none⟩, a3, a4, c1, c2, c3, c4⟩ s := ⟨hb4, (hkeep _ (by omega)).trans HBD.out.g, (hkeep _ (by omega)).trans HBD.out.k⟩
              have ho4 : OwnZ w4 (w.heap.size + 2) v' (zs (Lo.retTo es s e (k + 1))) := by
                rw [Lo.retTo_yes HYES.out]
                unfold zs OwnZ
                rw [List.map_append, List.length_append, List.map_append]
                exact hown4
              obtain ⟨g5, c5, rfl⟩ := own_succ hown4
              have HX4 := Nu.hid hbx4
              have HO4 := Nu.hid ho4
              clear hown4 hg4 hat4 hb4 hkeep hbx4 ho4
              go_wp2
              go_roundw
              case rel => exact ⟨k + 1, by have := HLT.out; omega, by go_num, HO4.out, HX4.out⟩
              case measure => simp [intOf]; omega
            · have HNO : Hid (Lo.isRet es s e k = false) := by
                have h : Lo.isRet es s e k = false := by
                  rw [← Bool.not_eq_true, HRET.out]
                  exact fun h => ha h.2.2
                exact h
              have HAN : Hid (∀ V, BxAt w V n ao ca es ⟨a1, some ⟨b2, o2, none⟩, a3, a4, c1, c2, c3, c4⟩ s → Calls Tryz.prog 43 #[.agg #[.int .i64 (n : Int), .slice ao es.length ca], .agg #[.slice a1 n c1, .slice (some ⟨b2, o2, none⟩) n c2, .slice a3 n c3, .slice a4 es.length c4], .int .i64 (q : Int), .int .i64 (u : Int)] V fun e w' => e = .returned (.bool false) ∧ Below V.heap.size V w') := fun V hV => (HAK.out V hV).mono (by
                rintro r w' ⟨b, rfl, h1, h2⟩
                cases b with
                | true => exact absurd (h1.1 rfl) ha
                | false => exact ⟨rfl, h2⟩)
              clear htk ha
              go_wp2_with fail
              refine wp_region_lw (by kernel_rfl) (by kernel_rfl) ?_
              repeat (go_big_quiet_step ((first | (go_at_call 42; exact Calls.lw (HTK.out _ (HTD.out _))) | (go_at_call 43; exact Calls.lw (HAN.out _ (HTD.out _))))))
              refine wpQuiet_nil ?_
              rintro _ ⟨D, rfl⟩
              have HBD := Nu.hid (HTD.out D)
              have HOD : Hid (OwnZ D.val (w.heap.size + 2) u9 (zs (Lo.retTo es s e k))) := HOWN.out.later (HB3.out.trans (D.h.mono HB3.out.size))
              clear y0 y1 y2 y3 y4 y5 y6 y7
              go_wp2
              go_roundw
              case rel => exact ⟨k + 1, by have := HLT.out; omega, by go_num, by rw [Lo.retTo_no HNO.out]; exact HOD.out, HBD.out⟩
              case measure => simp [intOf]; omega
          · have HNO : Hid (Lo.isRet es s e k = false) := by
              have h : Lo.isRet es s e k = false := by
                rw [← Bool.not_eq_true, HRET.out]
                exact fun h => hxy h.2.1
              exact h
            have t5 : decide (x < y) = false := by simp only [decide_eq_false_iff_not]; exact hxy
            clear htk hxy
            go_wp2_with fail
            refine wp_region_lw (by kernel_rfl) (by kernel_rfl) ?_
            repeat (go_big_quiet_step ((first | (go_at_call 42; exact Calls.lw (HTK.out _ (HTD.out _))))))
            refine wpQuiet_nil ?_
            rintro _ ⟨D, rfl⟩
            have HBD := Nu.hid (HTD.out D)
            have HOD : Hid (OwnZ D.val (w.heap.size + 2) u9 (zs (Lo.retTo es s e k))) := HOWN.out.later (HB3.out.trans (D.h.mono HB3.out.size))
            clear y0 y1 y2 y3 y4 y5 y6 y7
            go_wp2
            go_roundw
            case rel => exact ⟨k + 1, by have := HLT.out; omega, by go_num, by rw [Lo.retTo_no HNO.out]; exact HOD.out, HBD.out⟩
            case measure => simp [intOf]; omega
      · have hd : ¬ ((k : Int) < (es.length : Int)) := by omega
        obtain rfl : k = es.length := by omega
        clear hown hb hlt
        go_wp2
        go_ret
        exact ⟨_, rfl, by rw [HR.out]; exact HOWN.out.lower (by omega), HB.out.bel⟩
end

end Go.Proofs.YtmgoahbloppdmaaGreat
