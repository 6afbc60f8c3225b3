import Derived.Test.YtmgoahbloppdmaaGreatMg14
import Derived.Test.YtmgoahbloppdmaaGreatMg13
import Derived.Test.YtmgoahbloppdmaaGreatMg04
/-
  The edges held against the forest: rightEdges.
-/
namespace Go.Proofs.YtmgoahbloppdmaaGreat
open Go.RowKit

section
variable {w0 w : World} {p gp gb : Nat} {av : Value} {f : For} {s : Df.St} {n : Nat} {es : List (Int × Int)} {P E : List Int}

set_option maxRecDepth 100000 in
set_option maxHeartbeats 16000000 in
theorem rightEdges_any (hadj : IsAdj w0 av n es) (hF : LstF w0 f s) (hL : Df.Lens n es s) (h : Full w0 w p gp gb av f s n P E)
    (hab : ∀ u v, u < n → v < n → ((Df.at_ P u ≤ Df.at_ P v ∧ Df.at_ P v < Df.at_ E u) ↔ Df.Anc es s u v)) :
    Calls Tryz.prog 74 #[.pointer (some ⟨p, 0, none⟩)] w (BoolPost (∀ e, e < es.length → Df.Edge1 es s e) w) := by
  obtain ⟨hbn, hbm⟩ := hadj.bounds
  obtain ⟨l1, l2, l3, l4⟩ := hL
  obtain ⟨a1, a2, a3, a4, k1, k2, k3, k4⟩ := f
  have hav : ∃ q, av = .pointer q := by
    rcases hadj with ⟨h, _⟩ | ⟨_, p, h, _⟩
    · exact ⟨_, h⟩
    · exact ⟨_, h⟩
  obtain ⟨qa, rfl⟩ := hav
  have c4 := h.rd.c4
  dsimp only at c4
  rw [l4] at c4
  obtain ⟨m, hm⟩ : ∃ m, es.length = m := ⟨_, rfl⟩
  rw [hm] at c4 hbm l4
  have HH := Nu.hid h
  have HADJ := Nu.hid hadj
  have HF := Nu.hid hF
  have HAB := Nu.hid hab
  have HM := Nu.hid hm
  rw [hm]
  clear hadj hF h hab hm
  go_enter Tryz.func74, Tryz.ntmps74
  go_wp2_with fail
  go_loopw [13] (fun c wr => ∃ k : Nat, k ≤ m ∧ c = .int .i64 k ∧ (∀ e, e < k → Df.Edge1 es s e) ∧ Below w.heap.size w wr) (fun c _ => m - (intOf c).toNat)
  case atStart => exact ⟨0, Nat.zero_le _, rfl, fun e he => absurd he (Nat.not_lt_zero _), Below.refl _ _⟩
  case round =>
    obtain ⟨k, hk, rfl, hdone, hbw⟩ := hrel
    have hf := HH.out.later hbw
    have HDN := Nu.hid hdone
    have HBW := Nu.hid hbw
    by_cases hlt : k < m
    · have hlti : (k : Int) < (m : Int) := by omega
      have hk0 : (0 : Int) ≤ (k : Int) := by omega
      obtain ⟨b4, o4, e4, d4⟩ := lst_at (HF.out.later hf.rd.bel).l4 (i := k) (by omega)
      dsimp only at e4
      subst e4
      obtain ⟨x, hx⟩ : ∃ x, s.ori.getD k (-1) = x := ⟨_, rfl⟩
      rw [hx] at d4
      have HX : Hid (Df.at_ s.ori k = x) := hx
      have hmw : IntKind.i64.wrap (2 * (k : Int)) = 2 * (k : Int) := by rw [IntKind.wrap_i64]; omega
      have hmw1 : IntKind.i64.wrap (2 * (k : Int) + 1) = 2 * (k : Int) + 1 := by rw [IntKind.wrap_i64]; omega
      by_cases hgood : x = 2 * (k : Int) ∨ x = 2 * (k : Int) + 1
      · obtain ⟨j, rfl⟩ : ∃ j : Nat, x = (j : Int) := ⟨x.toNat, by omega⟩
        have hj : j = 2 * k ∨ j = 2 * k + 1 := by omega
        have hjl : j < 2 * es.length := by rw [HM.out]; omega
        have hval := HADJ.out.val hjl
        obtain ⟨hfl, htl⟩ := Cs.half_lt hval hjl
        have HFR : Hid (∀ V, Below wr.heap.size wr V → Calls Tryz.prog 41 #[.pointer qa, .int .i64 (j : Int)] V fun r V' => r = .returned (.int .i64 (Cs.fr es j : Int)) ∧ V' = V) := by
          intro V hV
          have := from_any (.pointer qa) n es j V (HADJ.out.later (hf.later hV).rd.bel)
          rw [Cs.frI_in hjl] at this
          exact this
        have HTO : Hid (∀ V, Below wr.heap.size wr V → Calls Tryz.prog 46 #[.pointer qa, .int .i64 (j : Int)] V fun r V' => r = .returned (.int .i64 (Cs.to es j : Int)) ∧ V' = V) := by
          intro V hV
          have := to_any (.pointer qa) n es j V (HADJ.out.later (hf.later hV).rd.bel)
          rw [Cs.toI_in hjl] at this
          exact this
        obtain ⟨a, ha⟩ : ∃ a, Cs.fr es j = a := ⟨_, rfl⟩
        obtain ⟨b, hb⟩ : ∃ b, Cs.to es j = b := ⟨_, rfl⟩
        rw [ha] at hfl HFR
        rw [hb] at htl HTO
        have hHB := HAB.out b a htl hfl
        obtain ⟨b1, o1, e1, d1⟩ := lst_at (HF.out.later hf.rd.bel).l1 (i := b) (by omega)
        dsimp only at e1
        subst e1
        obtain ⟨y, hy⟩ : ∃ y, s.par.getD b (-1) = y := ⟨_, rfl⟩
        rw [hy] at d1
        have HE : Hid (Df.Edge1 es s k ↔ (y = (j : Int) ∨ Df.Anc es s b a)) := by
          constructor
          · rintro ⟨h, h1, h2, h3⟩
            obtain rfl : h = j := by rw [HX.out] at h2; omega
            rw [ha, hb] at h3
            have : Df.at_ s.par b = y := hy
            rw [this] at h3
            exact h3
          · intro h3
            refine ⟨j, hj, HX.out, ?_⟩
            rw [ha, hb]
            have : Df.at_ s.par b = y := hy
            rw [this]
            exact h3
        have hc1 := hf.rd.c1
        have hc0 := hf.rd.c0
        dsimp only at hc1
        rw [l1] at hc1
        have HCS : Hid (∀ W k, W = wr.drewN k → W.cell? ⟨p, 1, none⟩ = some (.slice (some ⟨b1, o1, none⟩) n k1) ∧ W.cell? ⟨b1, o1 + b, none⟩ = some (.int .i64 y) ∧ Below wr.heap.size wr W) := fun W k hW => by subst hW; exact ⟨hc1, d1, below_drewN (Below.refl _ _) _⟩
        have HAV : Hid (∀ V, Below wr.heap.size wr V → Calls Tryz.prog 97 #[.pointer (some ⟨p, 0, none⟩), .int .i64 (b : Int), .int .i64 (a : Int)] V (BoolPost (Df.Anc es s b a) V)) := fun V hV => by
          have := rabove_any b a (hf.later hV) htl hfl
          rw [hHB] at this
          exact this
        have hb0 : (0 : Int) ≤ (b : Int) := by omega
        have hb1 : (b : Int) < (n : Int) := by omega
        have HYJ : Hid (y = (j : Int) ∨ y ≠ (j : Int)) := Classical.em _
        have HGO : Hid (Df.Edge1 es s k → ∀ e, e < k + 1 → Df.Edge1 es s e) := fun h e he => by
          by_cases hek : e < k
          · exact HDN.out e hek
          · obtain rfl : e = k := by omega
            exact h
        have tg : ((j : Int) != 2 * (k : Int)) = false ∨ (((j : Int) != 2 * (k : Int)) = true ∧ ((j : Int) != 2 * (k : Int) + 1) = false) := by
          rcases hj with hj | hj
          · left; simp; omega
          · right; constructor
            · simp; omega
            · simp; omega
        clear hf hval hjl ha hb hx hy hHB hfl htl hc1 d1 hgood hj hdone hbw
        rcases tg with tg | ⟨tg, tg1⟩
        all_goals
          go_wp2_with fail
          go_quiet ((first
            | (go_at_call 41; exact Calls.quiet_of_same (HFR.out _ (below_drewN (Below.refl _ _) _)))
            | (go_at_call 46; exact Calls.quiet_of_same (HTO.out _ (below_drewN (Below.refl _ _) _)))))
          obtain ⟨W, hW⟩ : ∃ W, W = wr.drewN nq := ⟨_, rfl⟩
          rw [← hW]
          obtain ⟨z1, z2, hbW⟩ := HCS.out W nq hW
          have HBX := Nu.hid hbW
          clear hW hbW
          rcases HYJ.out with hyj | hyj
          · have t1 : (y != (j : Int)) = false := by simp [hyj]
            have HY := Nu.hid hyj
            clear hyj
            go_wp2
            go_roundw
            case rel => exact ⟨k + 1, by omega, by go_num, HGO.out (HE.out.2 (.inl HY.out)), HBW.out.trans (HBX.out.mono HBW.out.size)⟩
            case measure => simp [intOf]; omega
          · have t1 : (y != (j : Int)) = true := by simp [hyj]
            have HY := Nu.hid hyj
            clear hyj
            go_wp2_with (go_at_call 97; refine (HAV.out _ HBX.out).mono ?_; rintro e w6 ⟨bb, rfl, hbb, hb6⟩; have HB6 := Nu.hid hb6; have HBB := Nu.hid hbb; clear hb6 hbb; cases bb)
            · go_ret
              exact ⟨false, rfl, ⟨fun h => (by cases h), fun h => (by
                rcases HE.out.1 (h k hlt) with h1 | h1
                · exact absurd h1 HY.out
                · exact HBB.out.2 h1)⟩, (HBW.out.trans (HBX.out.mono HBW.out.size)).trans (HB6.out.mono (Nat.le_trans HBW.out.size HBX.out.size))⟩
            · go_roundw
              case rel => exact ⟨k + 1, by omega, by go_num, HGO.out (HE.out.2 (.inr (HBB.out.1 (by trivial)))), (HBW.out.trans (HBX.out.mono HBW.out.size)).trans (HB6.out.mono (Nat.le_trans HBW.out.size HBX.out.size))⟩
              case measure => simp [intOf]; omega
      · have t1 : (x != 2 * (k : Int)) = true := by simp; omega
        have t2 : (x != 2 * (k : Int) + 1) = true := by simp; omega
        have HG : Hid (¬ Df.Edge1 es s k) := by
          rintro ⟨h, h1, h2, _⟩
          rw [HX.out] at h2
          exact hgood (by omega)
        clear hgood hf hx hdone hbw
        go_wp2
        go_ret
        exact ⟨false, rfl, ⟨fun h => (by cases h), fun h => absurd (h k hlt) HG.out⟩, HBW.out⟩
    · have hd : ¬ ((k : Int) < (m : Int)) := by omega
      obtain rfl : k = m := by omega
      clear hf hdone hbw
      go_wp2
      go_ret
      exact ⟨true, rfl, ⟨fun _ => HDN.out, fun _ => rfl⟩, HBW.out⟩
end

end Go.Proofs.YtmgoahbloppdmaaGreat

/-
  A forest read against a graph: dfs.read, dfs.Valid, dfs.Above.
-/
namespace Go.Proofs.YtmgoahbloppdmaaGreat
open Go.RowKit

/-- What a reading that stands gives. -/
def Stands (n : Int) (es : List (Int × Int)) (f : For) (s : Df.St) (w : World) (r : Option Addr) (w' : World) : Prop :=
  ∃ (m p gp gb : Nat) (av : Value) (P E : List Int) (w0 : World), n = (m : Int) ∧ Si.Val m es ∧ Df.VF m es s ∧ r = some ⟨p, 0, none⟩ ∧ IsAdj w0 av m es ∧ Full w0 w' p gp gb av f s m P E ∧ (∀ u v, u < m → v < m → ((Df.at_ P u ≤ Df.at_ P v ∧ Df.at_ P v < Df.at_ E u) ↔ Df.Anc es s u v)) ∧ Below w.heap.size w w'

/-- What read answers. -/
def ReadsPost (n : Int) (es : List (Int × Int)) (f : For) (s : Df.St) (w : World) (e : Ending) (w' : World) : Prop :=
  (∃ r, e = .returned (.tuple #[.pointer r, .bool true]) ∧ Stands n es f s w r w') ∨ (∃ r, e = .returned (.tuple #[.pointer r, .bool false]) ∧ ¬ IsVF n es s ∧ Below w.heap.size w w')

set_option maxRecDepth 100000 in
set_option maxHeartbeats 16000000 in
theorem read_any (n : Int) (ao : Option Addr) (cap : Nat) (es : List (Int × Int)) (f : For) (s : Df.St) (w : World) (he : EdgesAt w ao es) (hl : es.length ≤ 4611686018427387904) (hF : LstF w f s) :
    Calls Tryz.prog 56 #[graphVal n ao es.length cap, f.val s] w (ReadsPost n es f s w) := by
  obtain ⟨a1, a2, a3, a4, c1, c2, c3, c4⟩ := f
  obtain ⟨W, hW⟩ : ∃ W, W = (w.alloc (.cells #[.int .i64 n, .slice ao es.length cap] 24)).alloc (.cells #[.slice a1 s.par.length c1, .slice a2 s.hei.length c2, .slice a3 s.ord.length c3, .slice a4 s.ori.length c4] 27) := ⟨_, rfl⟩
  have hB0 : Below w.heap.size w W := by rw [hW]; exact ((Below.refl _ _).alloc (Nat.le_refl _) _).alloc (by simp) _
  have hsz : W.heap.size = w.heap.size + 2 := by rw [hW]; simp
  have g1 : W.heap[w.heap.size]? = some (.cells #[.int .i64 n, .slice ao es.length cap] 24 (0, 0)) := by
    rw [hW, Below.heap_alloc _ _ _ (by simp)]
    exact heap_alloc_new w _
  have g2 : W.heap[w.heap.size + 1]? = some (.cells #[.slice a1 s.par.length c1, .slice a2 s.hei.length c2, .slice a3 s.ord.length c3, .slice a4 s.ori.length c4] 27 (0, 0)) := by
    rw [hW]
    exact alloc_at (by simp)
  have hnew := cnew_any n ao cap es W (he.later hB0) hl
  unfold graphVal at hnew ⊢
  unfold For.val
  dsimp only
  have HF := Nu.hid (hF.later hB0)
  have HB0 := Nu.hid hB0
  have HG2 := Nu.hid g2
  obtain ⟨x0, x1, -⟩ := pair_cells g1
  have HWW := Nu.hid hW
  rw [hW] at x0 x1
  cases hv : Si.valid n es with
  | false =>
    have HNEW : Hid (Calls Tryz.prog 32 #[.agg #[.int .i64 n, .slice ao es.length cap]] W fun e w' => e = .returned (.tuple #[.pointer none, .int .i64 1]) ∧ Below W.heap.size W w') := hnew.mono (by
      rintro e w' ⟨⟨m, q, rfl, hval, _⟩ | ⟨_, h⟩, hb⟩
      · rw [Si.valid_iff.2 hval] at hv; cases hv
      · exact ⟨h, hb⟩)
    have HNO : Hid (¬ IsVF n es s) := by
      rintro ⟨m, rfl, hval, _⟩
      rw [Si.valid_iff.2 hval] at hv; cases hv
    clear hnew hB0 g1 g2 he hW hv hF
    go_enter Tryz.func56, Tryz.ntmps56
    go_wp2_with (go_at_call 32; rw [← HWW.out]; refine HNEW.out.mono ?_; rintro e w1 ⟨rfl, hb1⟩; have HB1 := Nu.hid hb1; clear hb1)
    go_ret2
    exact .inr ⟨none, rfl, HNO.out, HB0.out.trans (HB1.out.mono HB0.out.size)⟩
  | true =>
    obtain ⟨m, rfl⟩ : ∃ m : Nat, n = (m : Int) := ⟨n.toNat, by have := (Si.valid_iff.1 hv).lo; omega⟩
    have hval := Si.valid_iff.1 hv
    have HNEW : Hid (Calls Tryz.prog 32 #[.agg #[.int .i64 (m : Int), .slice ao es.length cap]] W fun e w' => ∃ q, e = .returned (.tuple #[.pointer (some ⟨q, 0, none⟩), .int .i64 0]) ∧ AdjAt w' W.heap.size q m es ∧ Below W.heap.size W w') := hnew.mono (by
      rintro e w' ⟨⟨m', q, hm, _, h, ha⟩ | ⟨h, _⟩, hb⟩
      · obtain rfl : m = m' := by omega
        exact ⟨q, h, ha, hb⟩
      · rw [hv] at h; cases h)
    have HVAL := Nu.hid hval
    have HNO : Hid (¬ Df.VF m es s → ¬ IsVF (m : Int) es s) := by
      rintro h ⟨m', hm, _, hvf⟩
      obtain rfl : m = m' := by omega
      exact h hvf
    clear hnew hB0 g1 g2 he hW hv hval hF
    go_enter Tryz.func56, Tryz.ntmps56
    go_wp2_with (go_at_call 32; rw [← HWW.out]; refine HNEW.out.mono ?_; rintro e w1 ⟨q, rfl, hadj, hb1⟩; refine Hid.out ?_)
    refine Nu.hid ?_
    have hk2 := (hb1.block _ (by omega)).trans HG2.out
    have HB1 := Nu.hid (HB0.out.trans (hb1.mono HB0.out.size))
    have hs1 := hb1.size
    have hav : IsAdj w1 (.pointer (some ⟨q, 0, none⟩)) m es := .inr ⟨_, q, rfl, HVAL.out, hadj⟩
    have HADJ := Nu.hid hav
    have HF1 := Nu.hid (HF.out.later hb1)
    obtain ⟨k0, k1, k2, k3, kf⟩ := four_cells hk2
    obtain ⟨V, hV⟩ : ∃ V, V = w1.alloc (.cells (rcells (.pointer (some ⟨q, 0, none⟩)) ⟨a1, a2, a3, a4, c1, c2, c3, c4⟩ s (.slice none 0 0) (.slice none 0 0)) 101) := ⟨_, rfl⟩
    have hR : ReadAt w1 V w1.heap.size (.pointer (some ⟨q, 0, none⟩)) ⟨a1, a2, a3, a4, c1, c2, c3, c4⟩ s (.slice none 0 0) (.slice none 0 0) := by
      refine ⟨?_, ?_, Nat.le_refl _⟩
      · rw [hV]; exact (Below.refl _ _).alloc (Nat.le_refl _) _
      · rw [hV]; exact heap_alloc_new w1 _
    have HR := Nu.hid hR
    have HV := Nu.hid hV
    have HUP : Hid (∀ V', Below w1.heap.size w1 V' → Below w.heap.size w V') := fun V' h => HB1.out.trans (h.mono HB1.out.size)
    clear x0 x1 hb1 hadj hav hk2 hR hV
    by_cases hL : Df.Lens m es s
    · by_cases hO : Df.Once m s m
      · by_cases hH : Df.Hang m es s
        · by_cases hS : ∃ r, Df.side m es s m = some r
          · by_cases hE : ∀ e, e < es.length → Df.Edge1 es s e
            · have HLEN : Hid (Calls Tryz.prog 70 #[.pointer (some ⟨w1.heap.size, 0, none⟩)] V fun e w' => e = .returned (.bool true) ∧ Below V.heap.size V w') := (lengths_any HADJ.out HR.out).mono (by rintro e w' ⟨b, rfl, hb, hbl⟩; rw [hb.2 hL]; exact ⟨rfl, hbl⟩)
              have HONC : Hid (∀ V', ReadAt w1 V' w1.heap.size (.pointer (some ⟨q, 0, none⟩)) ⟨a1, a2, a3, a4, c1, c2, c3, c4⟩ s (.slice none 0 0) (.slice none 0 0) → Calls Tryz.prog 71 #[.pointer (some ⟨w1.heap.size, 0, none⟩)] V' fun e w' => ∃ gp P, e = .returned (.bool true) ∧ ReadAt w1 w' w1.heap.size (.pointer (some ⟨q, 0, none⟩)) ⟨a1, a2, a3, a4, c1, c2, c3, c4⟩ s (.slice (some ⟨gp, 0, none⟩) m m) (.slice none 0 0) ∧ IntsBlk w' gp P ∧ Df.IsPlace m s P ∧ gp ≠ w1.heap.size ∧ w1.heap.size ≤ gp) := fun V' hr => (eachOnce_any HADJ.out HF1.out hL hr).mono (by rintro e w' (⟨gp, P, h1, h2, h3⟩ | ⟨_, h, _⟩); exact ⟨gp, P, h1, h3⟩; exact absurd hO h)
              have HPAR : Hid (∀ V' gp, ReadAt w1 V' w1.heap.size (.pointer (some ⟨q, 0, none⟩)) ⟨a1, a2, a3, a4, c1, c2, c3, c4⟩ s (.slice (some ⟨gp, 0, none⟩) m m) (.slice none 0 0) → Calls Tryz.prog 72 #[.pointer (some ⟨w1.heap.size, 0, none⟩)] V' fun e w' => e = .returned (.bool true) ∧ Below V'.heap.size V' w') := fun V' gp hr => (rightParents_any HADJ.out HF1.out hL hr).mono (by rintro e w' ⟨b, rfl, hb, hbl⟩; rw [hb.2 hH]; exact ⟨rfl, hbl⟩)
              have HSID : Hid (∀ V' gp P, ReadAt w1 V' w1.heap.size (.pointer (some ⟨q, 0, none⟩)) ⟨a1, a2, a3, a4, c1, c2, c3, c4⟩ s (.slice (some ⟨gp, 0, none⟩) m m) (.slice none 0 0) → IntsBlk V' gp P → Df.IsPlace m s P → gp ≠ w1.heap.size → w1.heap.size ≤ gp → Calls Tryz.prog 73 #[.pointer (some ⟨w1.heap.size, 0, none⟩)] V' fun e w' => ∃ gb E, e = .returned (.bool true) ∧ Full w1 w' w1.heap.size gp gb (.pointer (some ⟨q, 0, none⟩)) ⟨a1, a2, a3, a4, c1, c2, c3, c4⟩ s m P E ∧ (∀ u v, u < m → v < m → ((Df.at_ P u ≤ Df.at_ P v ∧ Df.at_ P v < Df.at_ E u) ↔ Df.Anc es s u v))) := fun V' gp P hr hi hp h1 h2 => (sideBySide_any HADJ.out HF1.out hL hO hr hi h1 h2).mono (by rintro e w' (⟨gb, Wy, B, g1, g2, g3, g4, g5⟩ | ⟨_, h, _⟩); exact ⟨gb, _, g1, ⟨g3, g4, g5, hp.1, by unfold Df.ends; rw [Df.leave_len]; exact (Df.side_range hO (Nat.le_refl _) g2).2.2⟩, fun u v hu hv => Df.above_iff hO g2 hp hu hv⟩; obtain ⟨r, hr⟩ := hS; rw [h] at hr; cases hr)
              have HEDG : Hid (∀ V' gp gb P E, Full w1 V' w1.heap.size gp gb (.pointer (some ⟨q, 0, none⟩)) ⟨a1, a2, a3, a4, c1, c2, c3, c4⟩ s m P E → (∀ u v, u < m → v < m → ((Df.at_ P u ≤ Df.at_ P v ∧ Df.at_ P v < Df.at_ E u) ↔ Df.Anc es s u v)) → Calls Tryz.prog 74 #[.pointer (some ⟨w1.heap.size, 0, none⟩)] V' fun e w' => e = .returned (.bool true) ∧ Below V'.heap.size V' w') := fun V' gp gb P E hf ha => (rightEdges_any HADJ.out HF1.out hL hf ha).mono (by rintro e w' ⟨b, rfl, hb, hbl⟩; rw [hb.2 hE]; exact ⟨rfl, hbl⟩)
              have HVF : Hid (Df.VF m es s) := ⟨hL, hO, hH, hS, hE⟩
              clear hL hO hH hS hE
              go_wp2_with (first | (go_at_call 70; rw [← HV.out]; refine HLEN.out.mono ?_; rintro e w3 ⟨rfl, hb3⟩; have H3 := Nu.hid (HR.out.later hb3); clear hb3) | (go_at_call 71; refine (HONC.out _ H3.out).mono ?_; rintro e w4 ⟨gp, P, rfl, r4, i4, p4, n4, g4⟩; have R4 := Nu.hid r4; have I4 := Nu.hid i4; have P4 := Nu.hid p4; have N4 := Nu.hid n4; have G4 := Nu.hid g4; clear r4 i4 p4 n4 g4) | (go_at_call 72; refine (HPAR.out _ _ R4.out).mono ?_; rintro e w5 ⟨rfl, hb5⟩; have R5 := Nu.hid (R4.out.later hb5); have I5 := Nu.hid (I4.out.later hb5); clear hb5) | (go_at_call 73; refine (HSID.out _ _ _ R5.out I5.out P4.out N4.out G4.out).mono ?_; rintro e w6 ⟨gb, E, rfl, f6, ab6⟩; have F6 := Nu.hid f6; have AB6 := Nu.hid ab6; clear f6 ab6) | (go_at_call 74; refine (HEDG.out _ _ _ _ _ F6.out AB6.out).mono ?_; rintro e w7 ⟨rfl, hb7⟩; have F7 := Nu.hid (F6.out.later hb7); clear hb7))
              go_ret2
              exact .inl ⟨_, rfl, m, w1.heap.size, _, _, _, _, _, w1, rfl, HVAL.out, HVF.out, rfl, HADJ.out, F7.out, AB6.out, HUP.out _ F7.out.rd.bel⟩
            · have HLEN : Hid (Calls Tryz.prog 70 #[.pointer (some ⟨w1.heap.size, 0, none⟩)] V fun e w' => e = .returned (.bool true) ∧ Below V.heap.size V w') := (lengths_any HADJ.out HR.out).mono (by rintro e w' ⟨b, rfl, hb, hbl⟩; rw [hb.2 hL]; exact ⟨rfl, hbl⟩)
              have HONC : Hid (∀ V', ReadAt w1 V' w1.heap.size (.pointer (some ⟨q, 0, none⟩)) ⟨a1, a2, a3, a4, c1, c2, c3, c4⟩ s (.slice none 0 0) (.slice none 0 0) → Calls Tryz.prog 71 #[.pointer (some ⟨w1.heap.size, 0, none⟩)] V' fun e w' => ∃ gp P, e = .returned (.bool true) ∧ ReadAt w1 w' w1.heap.size (.pointer (some ⟨q, 0, none⟩)) ⟨a1, a2, a3, a4, c1, c2, c3, c4⟩ s (.slice (some ⟨gp, 0, none⟩) m m) (.slice none 0 0) ∧ IntsBlk w' gp P ∧ Df.IsPlace m s P ∧ gp ≠ w1.heap.size ∧ w1.heap.size ≤ gp) := fun V' hr => (eachOnce_any HADJ.out HF1.out hL hr).mono (by rintro e w' (⟨gp, P, h1, h2, h3⟩ | ⟨_, h, _⟩); exact ⟨gp, P, h1, h3⟩; exact absurd hO h)
              have HPAR : Hid (∀ V' gp, ReadAt w1 V' w1.heap.size (.pointer (some ⟨q, 0, none⟩)) ⟨a1, a2, a3, a4, c1, c2, c3, c4⟩ s (.slice (some ⟨gp, 0, none⟩) m m) (.slice none 0 0) → Calls Tryz.prog 72 #[.pointer (some ⟨w1.heap.size, 0, none⟩)] V' fun e w' => e = .returned (.bool true) ∧ Below V'.heap.size V' w') := fun V' gp hr => (rightParents_any HADJ.out HF1.out hL hr).mono (by rintro e w' ⟨b, rfl, hb, hbl⟩; rw [hb.2 hH]; exact ⟨rfl, hbl⟩)
              have HSID : Hid (∀ V' gp P, ReadAt w1 V' w1.heap.size (.pointer (some ⟨q, 0, none⟩)) ⟨a1, a2, a3, a4, c1, c2, c3, c4⟩ s (.slice (some ⟨gp, 0, none⟩) m m) (.slice none 0 0) → IntsBlk V' gp P → Df.IsPlace m s P → gp ≠ w1.heap.size → w1.heap.size ≤ gp → Calls Tryz.prog 73 #[.pointer (some ⟨w1.heap.size, 0, none⟩)] V' fun e w' => ∃ gb E, e = .returned (.bool true) ∧ Full w1 w' w1.heap.size gp gb (.pointer (some ⟨q, 0, none⟩)) ⟨a1, a2, a3, a4, c1, c2, c3, c4⟩ s m P E ∧ (∀ u v, u < m → v < m → ((Df.at_ P u ≤ Df.at_ P v ∧ Df.at_ P v < Df.at_ E u) ↔ Df.Anc es s u v))) := fun V' gp P hr hi hp h1 h2 => (sideBySide_any HADJ.out HF1.out hL hO hr hi h1 h2).mono (by rintro e w' (⟨gb, Wy, B, g1, g2, g3, g4, g5⟩ | ⟨_, h, _⟩); exact ⟨gb, _, g1, ⟨g3, g4, g5, hp.1, by unfold Df.ends; rw [Df.leave_len]; exact (Df.side_range hO (Nat.le_refl _) g2).2.2⟩, fun u v hu hv => Df.above_iff hO g2 hp hu hv⟩; obtain ⟨r, hr⟩ := hS; rw [h] at hr; cases hr)
              have HEDG : Hid (∀ V' gp gb P E, Full w1 V' w1.heap.size gp gb (.pointer (some ⟨q, 0, none⟩)) ⟨a1, a2, a3, a4, c1, c2, c3, c4⟩ s m P E → (∀ u v, u < m → v < m → ((Df.at_ P u ≤ Df.at_ P v ∧ Df.at_ P v < Df.at_ E u) ↔ Df.Anc es s u v)) → Calls Tryz.prog 74 #[.pointer (some ⟨w1.heap.size, 0, none⟩)] V' fun e w' => e = .returned (.bool false) ∧ Below V'.heap.size V' w') := fun V' gp gb P E hf ha => (rightEdges_any HADJ.out HF1.out hL hf ha).mono (by rintro e w' ⟨b, rfl, hb, hbl⟩; have : b = false := (by cases b; rfl; exact absurd (hb.1 rfl) hE); rw [this]; exact ⟨rfl, hbl⟩)
              have HN := Nu.hid (HNO.out (fun h => hE h.edge))
              clear hL hO hH hS hE
              go_wp2_with (first | (go_at_call 70; rw [← HV.out]; refine HLEN.out.mono ?_; rintro e w3 ⟨rfl, hb3⟩; have H3 := Nu.hid (HR.out.later hb3); clear hb3) | (go_at_call 71; refine (HONC.out _ H3.out).mono ?_; rintro e w4 ⟨gp, P, rfl, r4, i4, p4, n4, g4⟩; have R4 := Nu.hid r4; have I4 := Nu.hid i4; have P4 := Nu.hid p4; have N4 := Nu.hid n4; have G4 := Nu.hid g4; clear r4 i4 p4 n4 g4) | (go_at_call 72; refine (HPAR.out _ _ R4.out).mono ?_; rintro e w5 ⟨rfl, hb5⟩; have R5 := Nu.hid (R4.out.later hb5); have I5 := Nu.hid (I4.out.later hb5); clear hb5) | (go_at_call 73; refine (HSID.out _ _ _ R5.out I5.out P4.out N4.out G4.out).mono ?_; rintro e w6 ⟨gb, E, rfl, f6, ab6⟩; have F6 := Nu.hid f6; have AB6 := Nu.hid ab6; clear f6 ab6) | (go_at_call 74; refine (HEDG.out _ _ _ _ _ F6.out AB6.out).mono ?_; rintro e w7 ⟨rfl, hb7⟩; have F7 := Nu.hid (F6.out.later hb7); clear hb7))
              go_ret2
              exact .inr ⟨_, rfl, HN.out, HUP.out _ F7.out.rd.bel⟩
          · have HLEN : Hid (Calls Tryz.prog 70 #[.pointer (some ⟨w1.heap.size, 0, none⟩)] V fun e w' => e = .returned (.bool true) ∧ Below V.heap.size V w') := (lengths_any HADJ.out HR.out).mono (by rintro e w' ⟨b, rfl, hb, hbl⟩; rw [hb.2 hL]; exact ⟨rfl, hbl⟩)
            have HONC : Hid (∀ V', ReadAt w1 V' w1.heap.size (.pointer (some ⟨q, 0, none⟩)) ⟨a1, a2, a3, a4, c1, c2, c3, c4⟩ s (.slice none 0 0) (.slice none 0 0) → Calls Tryz.prog 71 #[.pointer (some ⟨w1.heap.size, 0, none⟩)] V' fun e w' => ∃ gp P, e = .returned (.bool true) ∧ ReadAt w1 w' w1.heap.size (.pointer (some ⟨q, 0, none⟩)) ⟨a1, a2, a3, a4, c1, c2, c3, c4⟩ s (.slice (some ⟨gp, 0, none⟩) m m) (.slice none 0 0) ∧ IntsBlk w' gp P ∧ Df.IsPlace m s P ∧ gp ≠ w1.heap.size ∧ w1.heap.size ≤ gp) := fun V' hr => (eachOnce_any HADJ.out HF1.out hL hr).mono (by rintro e w' (⟨gp, P, h1, h2, h3⟩ | ⟨_, h, _⟩); exact ⟨gp, P, h1, h3⟩; exact absurd hO h)
            have HPAR : Hid (∀ V' gp, ReadAt w1 V' w1.heap.size (.pointer (some ⟨q, 0, none⟩)) ⟨a1, a2, a3, a4, c1, c2, c3, c4⟩ s (.slice (some ⟨gp, 0, none⟩) m m) (.slice none 0 0) → Calls Tryz.prog 72 #[.pointer (some ⟨w1.heap.size, 0, none⟩)] V' fun e w' => e = .returned (.bool true) ∧ Below V'.heap.size V' w') := fun V' gp hr => (rightParents_any HADJ.out HF1.out hL hr).mono (by rintro e w' ⟨b, rfl, hb, hbl⟩; rw [hb.2 hH]; exact ⟨rfl, hbl⟩)
            have HSID : Hid (∀ V' gp P, ReadAt w1 V' w1.heap.size (.pointer (some ⟨q, 0, none⟩)) ⟨a1, a2, a3, a4, c1, c2, c3, c4⟩ s (.slice (some ⟨gp, 0, none⟩) m m) (.slice none 0 0) → IntsBlk V' gp P → Df.IsPlace m s P → gp ≠ w1.heap.size → w1.heap.size ≤ gp → Calls Tryz.prog 73 #[.pointer (some ⟨w1.heap.size, 0, none⟩)] V' fun e w' => e = .returned (.bool false) ∧ Below w1.heap.size w1 w') := fun V' gp P hr hi hp h1 h2 => (sideBySide_any HADJ.out HF1.out hL hO hr hi h1 h2).mono (by rintro e w' (⟨gb, Wy, B, g1, g2, g3, g4, g5⟩ | ⟨h1, _, h3⟩); exact absurd ⟨_, g2⟩ hS; exact ⟨h1, h3⟩)
            have HN := Nu.hid (HNO.out (fun h => hS h.side))
            clear hL hO hH hS
            go_wp2_with (first | (go_at_call 70; rw [← HV.out]; refine HLEN.out.mono ?_; rintro e w3 ⟨rfl, hb3⟩; have H3 := Nu.hid (HR.out.later hb3); clear hb3) | (go_at_call 71; refine (HONC.out _ H3.out).mono ?_; rintro e w4 ⟨gp, P, rfl, r4, i4, p4, n4, g4⟩; have R4 := Nu.hid r4; have I4 := Nu.hid i4; have P4 := Nu.hid p4; have N4 := Nu.hid n4; have G4 := Nu.hid g4; clear r4 i4 p4 n4 g4) | (go_at_call 72; refine (HPAR.out _ _ R4.out).mono ?_; rintro e w5 ⟨rfl, hb5⟩; have R5 := Nu.hid (R4.out.later hb5); have I5 := Nu.hid (I4.out.later hb5); clear hb5) | (go_at_call 73; refine (HSID.out _ _ _ R5.out I5.out P4.out N4.out G4.out).mono ?_; rintro e w6 ⟨rfl, hb6⟩; have HB6 := Nu.hid hb6; clear hb6))
            go_ret2
            exact .inr ⟨_, rfl, HN.out, HUP.out _ HB6.out⟩
        · have HLEN : Hid (Calls Tryz.prog 70 #[.pointer (some ⟨w1.heap.size, 0, none⟩)] V fun e w' => e = .returned (.bool true) ∧ Below V.heap.size V w') := (lengths_any HADJ.out HR.out).mono (by rintro e w' ⟨b, rfl, hb, hbl⟩; rw [hb.2 hL]; exact ⟨rfl, hbl⟩)
          have HONC : Hid (∀ V', ReadAt w1 V' w1.heap.size (.pointer (some ⟨q, 0, none⟩)) ⟨a1, a2, a3, a4, c1, c2, c3, c4⟩ s (.slice none 0 0) (.slice none 0 0) → Calls Tryz.prog 71 #[.pointer (some ⟨w1.heap.size, 0, none⟩)] V' fun e w' => ∃ gp P, e = .returned (.bool true) ∧ ReadAt w1 w' w1.heap.size (.pointer (some ⟨q, 0, none⟩)) ⟨a1, a2, a3, a4, c1, c2, c3, c4⟩ s (.slice (some ⟨gp, 0, none⟩) m m) (.slice none 0 0) ∧ IntsBlk w' gp P ∧ Df.IsPlace m s P ∧ gp ≠ w1.heap.size ∧ w1.heap.size ≤ gp) := fun V' hr => (eachOnce_any HADJ.out HF1.out hL hr).mono (by rintro e w' (⟨gp, P, h1, h2, h3⟩ | ⟨_, h, _⟩); exact ⟨gp, P, h1, h3⟩; exact absurd hO h)
          have HPAR : Hid (∀ V' gp, ReadAt w1 V' w1.heap.size (.pointer (some ⟨q, 0, none⟩)) ⟨a1, a2, a3, a4, c1, c2, c3, c4⟩ s (.slice (some ⟨gp, 0, none⟩) m m) (.slice none 0 0) → Calls Tryz.prog 72 #[.pointer (some ⟨w1.heap.size, 0, none⟩)] V' fun e w' => e = .returned (.bool false) ∧ Below V'.heap.size V' w') := fun V' gp hr => (rightParents_any HADJ.out HF1.out hL hr).mono (by rintro e w' ⟨b, rfl, hb, hbl⟩; have : b = false := (by cases b; rfl; exact absurd (hb.1 rfl) hH); rw [this]; exact ⟨rfl, hbl⟩)
          have HN := Nu.hid (HNO.out (fun h => hH h.hang))
          clear hL hO hH
          go_wp2_with (first | (go_at_call 70; rw [← HV.out]; refine HLEN.out.mono ?_; rintro e w3 ⟨rfl, hb3⟩; have H3 := Nu.hid (HR.out.later hb3); clear hb3) | (go_at_call 71; refine (HONC.out _ H3.out).mono ?_; rintro e w4 ⟨gp, P, rfl, r4, i4, p4, n4, g4⟩; have R4 := Nu.hid r4; have I4 := Nu.hid i4; have P4 := Nu.hid p4; have N4 := Nu.hid n4; have G4 := Nu.hid g4; clear r4 i4 p4 n4 g4) | (go_at_call 72; refine (HPAR.out _ _ R4.out).mono ?_; rintro e w5 ⟨rfl, hb5⟩; have R5 := Nu.hid (R4.out.later hb5); have I5 := Nu.hid (I4.out.later hb5); clear hb5))
          go_ret2
          exact .inr ⟨_, rfl, HN.out, HUP.out _ R5.out.bel⟩
      · have HLEN : Hid (Calls Tryz.prog 70 #[.pointer (some ⟨w1.heap.size, 0, none⟩)] V fun e w' => e = .returned (.bool true) ∧ Below V.heap.size V w') := (lengths_any HADJ.out HR.out).mono (by rintro e w' ⟨b, rfl, hb, hbl⟩; rw [hb.2 hL]; exact ⟨rfl, hbl⟩)
        have HONC : Hid (∀ V', ReadAt w1 V' w1.heap.size (.pointer (some ⟨q, 0, none⟩)) ⟨a1, a2, a3, a4, c1, c2, c3, c4⟩ s (.slice none 0 0) (.slice none 0 0) → Calls Tryz.prog 71 #[.pointer (some ⟨w1.heap.size, 0, none⟩)] V' fun e w' => e = .returned (.bool false) ∧ Below w1.heap.size w1 w') := fun V' hr => (eachOnce_any HADJ.out HF1.out hL hr).mono (by rintro e w' (⟨gp, P, h1, h2, h3⟩ | ⟨h1, _, h3⟩); exact absurd h2 hO; exact ⟨h1, h3⟩)
        have HN := Nu.hid (HNO.out (fun h => hO h.once))
        clear hL hO
        go_wp2_with (first | (go_at_call 70; rw [← HV.out]; refine HLEN.out.mono ?_; rintro e w3 ⟨rfl, hb3⟩; have H3 := Nu.hid (HR.out.later hb3); clear hb3) | (go_at_call 71; refine (HONC.out _ H3.out).mono ?_; rintro e w4 ⟨rfl, hb4⟩; have HB4 := Nu.hid hb4; clear hb4))
        go_ret2
        exact .inr ⟨_, rfl, HN.out, HUP.out _ HB4.out⟩
    · have HLEN : Hid (Calls Tryz.prog 70 #[.pointer (some ⟨w1.heap.size, 0, none⟩)] V fun e w' => e = .returned (.bool false) ∧ Below V.heap.size V w') := (lengths_any HADJ.out HR.out).mono (by rintro e w' ⟨b, rfl, hb, hbl⟩; have : b = false := (by cases b; rfl; exact absurd (hb.1 rfl) hL); rw [this]; exact ⟨rfl, hbl⟩)
      have HN := Nu.hid (HNO.out (fun h => hL h.lens))
      clear hL
      go_wp2_with (first | (go_at_call 70; rw [← HV.out]; refine HLEN.out.mono ?_; rintro e w3 ⟨rfl, hb3⟩; have H3 := Nu.hid (HR.out.later hb3); clear hb3))
      go_ret2
      exact .inr ⟨_, rfl, HN.out, HUP.out _ H3.out.bel⟩

end Go.Proofs.YtmgoahbloppdmaaGreat
