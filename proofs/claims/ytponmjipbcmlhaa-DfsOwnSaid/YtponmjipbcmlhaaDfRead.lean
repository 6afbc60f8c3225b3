/-
  A forest read against a graph: dfs.read, dfs.Valid, dfs.Above.
-/
import Derived.Test.YtponmjipbcmlhaaDfEdges
import Derived.Test.YtponmjipbcmlhaaMgG
import Derived.Test.YtponmjipbcmlhaaCsNew
namespace Go.Proofs.Ytponmjipbcmlhaa
open Go.RowKit

/-- The graph is valid and the forest one of it. -/
def IsVF (n : Int) (es : List (Int × Int)) (s : Df.St) : Prop := ∃ m : Nat, n = (m : Int) ∧ Si.Val m es ∧ Df.VF m es s

/-- What a reading that stands gives. -/
def Stands (n : Int) (es : List (Int × Int)) (f : For) (s : Df.St) (w : World) (r : Option Addr) (w' : World) : Prop :=
  ∃ (m p gp gb : Nat) (av : Value) (P E : List Int) (w0 : World), n = (m : Int) ∧ Si.Val m es ∧ Df.VF m es s ∧ r = some ⟨p, 0, none⟩ ∧ IsAdj w0 av m es ∧ Full w0 w' p gp gb av f s m P E ∧ (∀ u v, u < m → v < m → ((Df.at_ P u ≤ Df.at_ P v ∧ Df.at_ P v < Df.at_ E u) ↔ Df.Anc es s u v)) ∧ Below w.heap.size w w'

/-- What read answers. -/
def ReadsPost (n : Int) (es : List (Int × Int)) (f : For) (s : Df.St) (w : World) (e : Ending) (w' : World) : Prop :=
  (∃ r, e = .returned (.tuple #[.pointer r, .bool true]) ∧ Stands n es f s w r w') ∨ (∃ r, e = .returned (.tuple #[.pointer r, .bool false]) ∧ ¬ IsVF n es s ∧ Below w.heap.size w w')

set_option maxRecDepth 100000 in
set_option maxHeartbeats 16000000 in
theorem read_any (n : Int) (ao : Option Addr) (cap : Nat) (es : List (Int × Int)) (f : For) (s : Df.St) (w : World) (he : EdgesAt w ao es) (hl : es.length ≤ 4611686018427387904) (hF : LstF w f s) :
    Calls Try.prog 28 #[graphVal n ao es.length cap, f.val s] w (ReadsPost n es f s w) := by
  obtain ⟨a1, a2, a3, a4, c1, c2, c3, c4⟩ := f
  obtain ⟨W, hW⟩ : ∃ W, W = (w.alloc (.cells #[.int .i64 n, .slice ao es.length cap] 24)).alloc (.cells #[.slice a1 s.par.length c1, .slice a2 s.hei.length c2, .slice a3 s.ord.length c3, .slice a4 s.ori.length c4] 28) := ⟨_, rfl⟩
  have hB0 : Below w.heap.size w W := by rw [hW]; exact ((Below.refl _ _).alloc (Nat.le_refl _) _).alloc (by simp) _
  have hsz : W.heap.size = w.heap.size + 2 := by rw [hW]; simp
  have g1 : W.heap[w.heap.size]? = some (.cells #[.int .i64 n, .slice ao es.length cap] 24 (0, 0)) := by
    rw [hW, Below.heap_alloc _ _ _ (by simp)]
    exact heap_alloc_new w _
  have g2 : W.heap[w.heap.size + 1]? = some (.cells #[.slice a1 s.par.length c1, .slice a2 s.hei.length c2, .slice a3 s.ord.length c3, .slice a4 s.ori.length c4] 28 (0, 0)) := by
    rw [hW]
    exact alloc_at (by simp)
  have hnew := cnew_any n ao cap es W (he.later hB0) hl
  unfold graphVal at hnew ⊢
  unfold For.val
  dsimp only
  have HF := Nu.hid (hF.later hB0)
  have HB0 := Nu.hid hB0
  have HG2 := Nu.hid g2
  obtain ⟨x0, x1, -⟩ := pair_cells g1
  have HWW := Nu.hid hW
  rw [hW] at x0 x1
  cases hv : Si.valid n es with
  | false =>
    have HNEW : Hid (Calls Try.prog 37 #[.agg #[.int .i64 n, .slice ao es.length cap]] W fun e w' => e = .returned (.tuple #[.pointer none, .int .i64 1]) ∧ Below W.heap.size W w') := hnew.mono (by
      rintro e w' ⟨⟨m, q, rfl, hval, _⟩ | ⟨_, h⟩, hb⟩
      · rw [Si.valid_iff.2 hval] at hv; cases hv
      · exact ⟨h, hb⟩)
    have HNO : Hid (¬ IsVF n es s) := by
      rintro ⟨m, rfl, hval, _⟩
      rw [Si.valid_iff.2 hval] at hv; cases hv
    clear hnew hB0 g1 g2 he hW hv hF
    go_enter Try.func28, Try.ntmps28
    go_wp2_with (go_at_call 37; rw [← HWW.out]; refine HNEW.out.mono ?_; rintro e w1 ⟨rfl, hb1⟩; have HB1 := Nu.hid hb1; clear hb1)
    go_ret2
    exact .inr ⟨none, rfl, HNO.out, HB0.out.trans (HB1.out.mono HB0.out.size)⟩
  | true =>
    obtain ⟨m, rfl⟩ : ∃ m : Nat, n = (m : Int) := ⟨n.toNat, by have := (Si.valid_iff.1 hv).lo; omega⟩
    have hval := Si.valid_iff.1 hv
    have HNEW : Hid (Calls Try.prog 37 #[.agg #[.int .i64 (m : Int), .slice ao es.length cap]] W fun e w' => ∃ q, e = .returned (.tuple #[.pointer (some ⟨q, 0, none⟩), .int .i64 0]) ∧ AdjAt w' W.heap.size q m es ∧ Below W.heap.size W w') := hnew.mono (by
      rintro e w' ⟨⟨m', q, hm, _, h, ha⟩ | ⟨h, _⟩, hb⟩
      · obtain rfl : m = m' := by omega
        exact ⟨q, h, ha, hb⟩
      · rw [hv] at h; cases h)
    have HVAL := Nu.hid hval
    have HNO : Hid (¬ Df.VF m es s → ¬ IsVF (m : Int) es s) := by
      rintro h ⟨m', hm, _, hvf⟩
      obtain rfl : m = m' := by omega
      exact h hvf
    clear hnew hB0 g1 g2 he hW hv hval hF
    go_enter Try.func28, Try.ntmps28
    go_wp2_with (go_at_call 37; rw [← HWW.out]; refine HNEW.out.mono ?_; rintro e w1 ⟨q, rfl, hadj, hb1⟩; refine Hid.out ?_)
    refine Nu.hid ?_
    have hk2 := (hb1.block _ (by omega)).trans HG2.out
    have HB1 := Nu.hid (HB0.out.trans (hb1.mono HB0.out.size))
    have hs1 := hb1.size
    have hav : IsAdj w1 (.pointer (some ⟨q, 0, none⟩)) m es := .inr ⟨_, q, rfl, HVAL.out, hadj⟩
    have HADJ := Nu.hid hav
    have HF1 := Nu.hid (HF.out.later hb1)
    obtain ⟨k0, k1, k2, k3, kf⟩ := four_cells hk2
    obtain ⟨V, hV⟩ : ∃ V, V = w1.alloc (.cells (rcells (.pointer (some ⟨q, 0, none⟩)) ⟨a1, a2, a3, a4, c1, c2, c3, c4⟩ s (.slice none 0 0) (.slice none 0 0)) 75) := ⟨_, rfl⟩
    have hR : ReadAt w1 V w1.heap.size (.pointer (some ⟨q, 0, none⟩)) ⟨a1, a2, a3, a4, c1, c2, c3, c4⟩ s (.slice none 0 0) (.slice none 0 0) := by
      refine ⟨?_, ?_, Nat.le_refl _⟩
      · rw [hV]; exact (Below.refl _ _).alloc (Nat.le_refl _) _
      · rw [hV]; exact heap_alloc_new w1 _
    have HR := Nu.hid hR
    have HV := Nu.hid hV
    have HUP : Hid (∀ V', Below w1.heap.size w1 V' → Below w.heap.size w V') := fun V' h => HB1.out.trans (h.mono HB1.out.size)
    clear x0 x1 hb1 hadj hav hk2 hR hV
    by_cases hL : Df.Lens m es s
    · by_cases hO : Df.Once m s m
      · by_cases hH : Df.Hang m es s
        · by_cases hS : ∃ r, Df.side m es s m = some r
          · by_cases hE : ∀ e, e < es.length → Df.Edge1 es s e
            · have HLEN : Hid (Calls Try.prog 43 #[.pointer (some ⟨w1.heap.size, 0, none⟩)] V fun e w' => e = .returned (.bool true) ∧ Below V.heap.size V w') := (lengths_any HADJ.out HR.out).mono (by rintro e w' ⟨b, rfl, hb, hbl⟩; rw [hb.2 hL]; exact ⟨rfl, hbl⟩)
              have HONC : Hid (∀ V', ReadAt w1 V' w1.heap.size (.pointer (some ⟨q, 0, none⟩)) ⟨a1, a2, a3, a4, c1, c2, c3, c4⟩ s (.slice none 0 0) (.slice none 0 0) → Calls Try.prog 44 #[.pointer (some ⟨w1.heap.size, 0, none⟩)] V' fun e w' => ∃ gp P, e = .returned (.bool true) ∧ ReadAt w1 w' w1.heap.size (.pointer (some ⟨q, 0, none⟩)) ⟨a1, a2, a3, a4, c1, c2, c3, c4⟩ s (.slice (some ⟨gp, 0, none⟩) m m) (.slice none 0 0) ∧ IntsBlk w' gp P ∧ Df.IsPlace m s P ∧ gp ≠ w1.heap.size ∧ w1.heap.size ≤ gp) := fun V' hr => (eachOnce_any HADJ.out HF1.out hL hr).mono (by rintro e w' (⟨gp, P, h1, h2, h3⟩ | ⟨_, h, _⟩); exact ⟨gp, P, h1, h3⟩; exact absurd hO h)
              have HPAR : Hid (∀ V' gp, ReadAt w1 V' w1.heap.size (.pointer (some ⟨q, 0, none⟩)) ⟨a1, a2, a3, a4, c1, c2, c3, c4⟩ s (.slice (some ⟨gp, 0, none⟩) m m) (.slice none 0 0) → Calls Try.prog 45 #[.pointer (some ⟨w1.heap.size, 0, none⟩)] V' fun e w' => e = .returned (.bool true) ∧ Below V'.heap.size V' w') := fun V' gp hr => (rightParents_any HADJ.out HF1.out hL hr).mono (by rintro e w' ⟨b, rfl, hb, hbl⟩; rw [hb.2 hH]; exact ⟨rfl, hbl⟩)
              have HSID : Hid (∀ V' gp P, ReadAt w1 V' w1.heap.size (.pointer (some ⟨q, 0, none⟩)) ⟨a1, a2, a3, a4, c1, c2, c3, c4⟩ s (.slice (some ⟨gp, 0, none⟩) m m) (.slice none 0 0) → IntsBlk V' gp P → Df.IsPlace m s P → gp ≠ w1.heap.size → w1.heap.size ≤ gp → Calls Try.prog 46 #[.pointer (some ⟨w1.heap.size, 0, none⟩)] V' fun e w' => ∃ gb E, e = .returned (.bool true) ∧ Full w1 w' w1.heap.size gp gb (.pointer (some ⟨q, 0, none⟩)) ⟨a1, a2, a3, a4, c1, c2, c3, c4⟩ s m P E ∧ (∀ u v, u < m → v < m → ((Df.at_ P u ≤ Df.at_ P v ∧ Df.at_ P v < Df.at_ E u) ↔ Df.Anc es s u v))) := fun V' gp P hr hi hp h1 h2 => (sideBySide_any HADJ.out HF1.out hL hO hr hi h1 h2).mono (by rintro e w' (⟨gb, Wy, B, g1, g2, g3, g4, g5⟩ | ⟨_, h, _⟩); exact ⟨gb, _, g1, ⟨g3, g4, g5, hp.1, by unfold Df.ends; rw [Df.leave_len]; exact (Df.side_range hO (Nat.le_refl _) g2).2.2⟩, fun u v hu hv => Df.above_iff hO g2 hp hu hv⟩; obtain ⟨r, hr⟩ := hS; rw [h] at hr; cases hr)
              have HEDG : Hid (∀ V' gp gb P E, Full w1 V' w1.heap.size gp gb (.pointer (some ⟨q, 0, none⟩)) ⟨a1, a2, a3, a4, c1, c2, c3, c4⟩ s m P E → (∀ u v, u < m → v < m → ((Df.at_ P u ≤ Df.at_ P v ∧ Df.at_ P v < Df.at_ E u) ↔ Df.Anc es s u v)) → Calls Try.prog 47 #[.pointer (some ⟨w1.heap.size, 0, none⟩)] V' fun e w' => e = .returned (.bool true) ∧ Below V'.heap.size V' w') := fun V' gp gb P E hf ha => (rightEdges_any HADJ.out HF1.out hL hf ha).mono (by rintro e w' ⟨b, rfl, hb, hbl⟩; rw [hb.2 hE]; exact ⟨rfl, hbl⟩)
              have HVF : Hid (Df.VF m es s) := ⟨hL, hO, hH, hS, hE⟩
              clear hL hO hH hS hE
              go_wp2_with (first | (go_at_call 43; rw [← HV.out]; refine HLEN.out.mono ?_; rintro e w3 ⟨rfl, hb3⟩; have H3 := Nu.hid (HR.out.later hb3); clear hb3) | (go_at_call 44; refine (HONC.out _ H3.out).mono ?_; rintro e w4 ⟨gp, P, rfl, r4, i4, p4, n4, g4⟩; have R4 := Nu.hid r4; have I4 := Nu.hid i4; have P4 := Nu.hid p4; have N4 := Nu.hid n4; have G4 := Nu.hid g4; clear r4 i4 p4 n4 g4) | (go_at_call 45; refine (HPAR.out _ _ R4.out).mono ?_; rintro e w5 ⟨rfl, hb5⟩; have R5 := Nu.hid (R4.out.later hb5); have I5 := Nu.hid (I4.out.later hb5); clear hb5) | (go_at_call 46; refine (HSID.out _ _ _ R5.out I5.out P4.out N4.out G4.out).mono ?_; rintro e w6 ⟨gb, E, rfl, f6, ab6⟩; have F6 := Nu.hid f6; have AB6 := Nu.hid ab6; clear f6 ab6) | (go_at_call 47; refine (HEDG.out _ _ _ _ _ F6.out AB6.out).mono ?_; rintro e w7 ⟨rfl, hb7⟩; have F7 := Nu.hid (F6.out.later hb7); clear hb7))
              go_ret2
              exact .inl ⟨_, rfl, m, w1.heap.size, _, _, _, _, _, w1, rfl, HVAL.out, HVF.out, rfl, HADJ.out, F7.out, AB6.out, HUP.out _ F7.out.rd.bel⟩
            · have HLEN : Hid (Calls Try.prog 43 #[.pointer (some ⟨w1.heap.size, 0, none⟩)] V fun e w' => e = .returned (.bool true) ∧ Below V.heap.size V w') := (lengths_any HADJ.out HR.out).mono (by rintro e w' ⟨b, rfl, hb, hbl⟩; rw [hb.2 hL]; exact ⟨rfl, hbl⟩)
              have HONC : Hid (∀ V', ReadAt w1 V' w1.heap.size (.pointer (some ⟨q, 0, none⟩)) ⟨a1, a2, a3, a4, c1, c2, c3, c4⟩ s (.slice none 0 0) (.slice none 0 0) → Calls Try.prog 44 #[.pointer (some ⟨w1.heap.size, 0, none⟩)] V' fun e w' => ∃ gp P, e = .returned (.bool true) ∧ ReadAt w1 w' w1.heap.size (.pointer (some ⟨q, 0, none⟩)) ⟨a1, a2, a3, a4, c1, c2, c3, c4⟩ s (.slice (some ⟨gp, 0, none⟩) m m) (.slice none 0 0) ∧ IntsBlk w' gp P ∧ Df.IsPlace m s P ∧ gp ≠ w1.heap.size ∧ w1.heap.size ≤ gp) := fun V' hr => (eachOnce_any HADJ.out HF1.out hL hr).mono (by rintro e w' (⟨gp, P, h1, h2, h3⟩ | ⟨_, h, _⟩); exact ⟨gp, P, h1, h3⟩; exact absurd hO h)
              have HPAR : Hid (∀ V' gp, ReadAt w1 V' w1.heap.size (.pointer (some ⟨q, 0, none⟩)) ⟨a1, a2, a3, a4, c1, c2, c3, c4⟩ s (.slice (some ⟨gp, 0, none⟩) m m) (.slice none 0 0) → Calls Try.prog 45 #[.pointer (some ⟨w1.heap.size, 0, none⟩)] V' fun e w' => e = .returned (.bool true) ∧ Below V'.heap.size V' w') := fun V' gp hr => (rightParents_any HADJ.out HF1.out hL hr).mono (by rintro e w' ⟨b, rfl, hb, hbl⟩; rw [hb.2 hH]; exact ⟨rfl, hbl⟩)
              have HSID : Hid (∀ V' gp P, ReadAt w1 V' w1.heap.size (.pointer (some ⟨q, 0, none⟩)) ⟨a1, a2, a3, a4, c1, c2, c3, c4⟩ s (.slice (some ⟨gp, 0, none⟩) m m) (.slice none 0 0) → IntsBlk V' gp P → Df.IsPlace m s P → gp ≠ w1.heap.size → w1.heap.size ≤ gp → Calls Try.prog 46 #[.pointer (some ⟨w1.heap.size, 0, none⟩)] V' fun e w' => ∃ gb E, e = .returned (.bool true) ∧ Full w1 w' w1.heap.size gp gb (.pointer (some ⟨q, 0, none⟩)) ⟨a1, a2, a3, a4, c1, c2, c3, c4⟩ s m P E ∧ (∀ u v, u < m → v < m → ((Df.at_ P u ≤ Df.at_ P v ∧ Df.at_ P v < Df.at_ E u) ↔ Df.Anc es s u v))) := fun V' gp P hr hi hp h1 h2 => (sideBySide_any HADJ.out HF1.out hL hO hr hi h1 h2).mono (by rintro e w' (⟨gb, Wy, B, g1, g2, g3, g4, g5⟩ | ⟨_, h, _⟩); exact ⟨gb, _, g1, ⟨g3, g4, g5, hp.1, by unfold Df.ends; rw [Df.leave_len]; exact (Df.side_range hO (Nat.le_refl _) g2).2.2⟩, fun u v hu hv => Df.above_iff hO g2 hp hu hv⟩; obtain ⟨r, hr⟩ := hS; rw [h] at hr; cases hr)
              have HEDG : Hid (∀ V' gp gb P E, Full w1 V' w1.heap.size gp gb (.pointer (some ⟨q, 0, none⟩)) ⟨a1, a2, a3, a4, c1, c2, c3, c4⟩ s m P E → (∀ u v, u < m → v < m → ((Df.at_ P u ≤ Df.at_ P v ∧ Df.at_ P v < Df.at_ E u) ↔ Df.Anc es s u v)) → Calls Try.prog 47 #[.pointer (some ⟨w1.heap.size, 0, none⟩)] V' fun e w' => e = .returned (.bool false) ∧ Below V'.heap.size V' w') := fun V' gp gb P E hf ha => (rightEdges_any HADJ.out HF1.out hL hf ha).mono (by rintro e w' ⟨b, rfl, hb, hbl⟩; have : b = false := (by cases b; rfl; exact absurd (hb.1 rfl) hE); rw [this]; exact ⟨rfl, hbl⟩)
              have HN := Nu.hid (HNO.out (fun h => hE h.edge))
              clear hL hO hH hS hE
              go_wp2_with (first | (go_at_call 43; rw [← HV.out]; refine HLEN.out.mono ?_; rintro e w3 ⟨rfl, hb3⟩; have H3 := Nu.hid (HR.out.later hb3); clear hb3) | (go_at_call 44; refine (HONC.out _ H3.out).mono ?_; rintro e w4 ⟨gp, P, rfl, r4, i4, p4, n4, g4⟩; have R4 := Nu.hid r4; have I4 := Nu.hid i4; have P4 := Nu.hid p4; have N4 := Nu.hid n4; have G4 := Nu.hid g4; clear r4 i4 p4 n4 g4) | (go_at_call 45; refine (HPAR.out _ _ R4.out).mono ?_; rintro e w5 ⟨rfl, hb5⟩; have R5 := Nu.hid (R4.out.later hb5); have I5 := Nu.hid (I4.out.later hb5); clear hb5) | (go_at_call 46; refine (HSID.out _ _ _ R5.out I5.out P4.out N4.out G4.out).mono ?_; rintro e w6 ⟨gb, E, rfl, f6, ab6⟩; have F6 := Nu.hid f6; have AB6 := Nu.hid ab6; clear f6 ab6) | (go_at_call 47; refine (HEDG.out _ _ _ _ _ F6.out AB6.out).mono ?_; rintro e w7 ⟨rfl, hb7⟩; have F7 := Nu.hid (F6.out.later hb7); clear hb7))
              go_ret2
              exact .inr ⟨_, rfl, HN.out, HUP.out _ F7.out.rd.bel⟩
          · have HLEN : Hid (Calls Try.prog 43 #[.pointer (some ⟨w1.heap.size, 0, none⟩)] V fun e w' => e = .returned (.bool true) ∧ Below V.heap.size V w') := (lengths_any HADJ.out HR.out).mono (by rintro e w' ⟨b, rfl, hb, hbl⟩; rw [hb.2 hL]; exact ⟨rfl, hbl⟩)
            have HONC : Hid (∀ V', ReadAt w1 V' w1.heap.size (.pointer (some ⟨q, 0, none⟩)) ⟨a1, a2, a3, a4, c1, c2, c3, c4⟩ s (.slice none 0 0) (.slice none 0 0) → Calls Try.prog 44 #[.pointer (some ⟨w1.heap.size, 0, none⟩)] V' fun e w' => ∃ gp P, e = .returned (.bool true) ∧ ReadAt w1 w' w1.heap.size (.pointer (some ⟨q, 0, none⟩)) ⟨a1, a2, a3, a4, c1, c2, c3, c4⟩ s (.slice (some ⟨gp, 0, none⟩) m m) (.slice none 0 0) ∧ IntsBlk w' gp P ∧ Df.IsPlace m s P ∧ gp ≠ w1.heap.size ∧ w1.heap.size ≤ gp) := fun V' hr => (eachOnce_any HADJ.out HF1.out hL hr).mono (by rintro e w' (⟨gp, P, h1, h2, h3⟩ | ⟨_, h, _⟩); exact ⟨gp, P, h1, h3⟩; exact absurd hO h)
            have HPAR : Hid (∀ V' gp, ReadAt w1 V' w1.heap.size (.pointer (some ⟨q, 0, none⟩)) ⟨a1, a2, a3, a4, c1, c2, c3, c4⟩ s (.slice (some ⟨gp, 0, none⟩) m m) (.slice none 0 0) → Calls Try.prog 45 #[.pointer (some ⟨w1.heap.size, 0, none⟩)] V' fun e w' => e = .returned (.bool true) ∧ Below V'.heap.size V' w') := fun V' gp hr => (rightParents_any HADJ.out HF1.out hL hr).mono (by rintro e w' ⟨b, rfl, hb, hbl⟩; rw [hb.2 hH]; exact ⟨rfl, hbl⟩)
            have HSID : Hid (∀ V' gp P, ReadAt w1 V' w1.heap.size (.pointer (some ⟨q, 0, none⟩)) ⟨a1, a2, a3, a4, c1, c2, c3, c4⟩ s (.slice (some ⟨gp, 0, none⟩) m m) (.slice none 0 0) → IntsBlk V' gp P → Df.IsPlace m s P → gp ≠ w1.heap.size → w1.heap.size ≤ gp → Calls Try.prog 46 #[.pointer (some ⟨w1.heap.size, 0, none⟩)] V' fun e w' => e = .returned (.bool false) ∧ Below w1.heap.size w1 w') := fun V' gp P hr hi hp h1 h2 => (sideBySide_any HADJ.out HF1.out hL hO hr hi h1 h2).mono (by rintro e w' (⟨gb, Wy, B, g1, g2, g3, g4, g5⟩ | ⟨h1, _, h3⟩); exact absurd ⟨_, g2⟩ hS; exact ⟨h1, h3⟩)
            have HN := Nu.hid (HNO.out (fun h => hS h.side))
            clear hL hO hH hS
            go_wp2_with (first | (go_at_call 43; rw [← HV.out]; refine HLEN.out.mono ?_; rintro e w3 ⟨rfl, hb3⟩; have H3 := Nu.hid (HR.out.later hb3); clear hb3) | (go_at_call 44; refine (HONC.out _ H3.out).mono ?_; rintro e w4 ⟨gp, P, rfl, r4, i4, p4, n4, g4⟩; have R4 := Nu.hid r4; have I4 := Nu.hid i4; have P4 := Nu.hid p4; have N4 := Nu.hid n4; have G4 := Nu.hid g4; clear r4 i4 p4 n4 g4) | (go_at_call 45; refine (HPAR.out _ _ R4.out).mono ?_; rintro e w5 ⟨rfl, hb5⟩; have R5 := Nu.hid (R4.out.later hb5); have I5 := Nu.hid (I4.out.later hb5); clear hb5) | (go_at_call 46; refine (HSID.out _ _ _ R5.out I5.out P4.out N4.out G4.out).mono ?_; rintro e w6 ⟨rfl, hb6⟩; have HB6 := Nu.hid hb6; clear hb6))
            go_ret2
            exact .inr ⟨_, rfl, HN.out, HUP.out _ HB6.out⟩
        · have HLEN : Hid (Calls Try.prog 43 #[.pointer (some ⟨w1.heap.size, 0, none⟩)] V fun e w' => e = .returned (.bool true) ∧ Below V.heap.size V w') := (lengths_any HADJ.out HR.out).mono (by rintro e w' ⟨b, rfl, hb, hbl⟩; rw [hb.2 hL]; exact ⟨rfl, hbl⟩)
          have HONC : Hid (∀ V', ReadAt w1 V' w1.heap.size (.pointer (some ⟨q, 0, none⟩)) ⟨a1, a2, a3, a4, c1, c2, c3, c4⟩ s (.slice none 0 0) (.slice none 0 0) → Calls Try.prog 44 #[.pointer (some ⟨w1.heap.size, 0, none⟩)] V' fun e w' => ∃ gp P, e = .returned (.bool true) ∧ ReadAt w1 w' w1.heap.size (.pointer (some ⟨q, 0, none⟩)) ⟨a1, a2, a3, a4, c1, c2, c3, c4⟩ s (.slice (some ⟨gp, 0, none⟩) m m) (.slice none 0 0) ∧ IntsBlk w' gp P ∧ Df.IsPlace m s P ∧ gp ≠ w1.heap.size ∧ w1.heap.size ≤ gp) := fun V' hr => (eachOnce_any HADJ.out HF1.out hL hr).mono (by rintro e w' (⟨gp, P, h1, h2, h3⟩ | ⟨_, h, _⟩); exact ⟨gp, P, h1, h3⟩; exact absurd hO h)
          have HPAR : Hid (∀ V' gp, ReadAt w1 V' w1.heap.size (.pointer (some ⟨q, 0, none⟩)) ⟨a1, a2, a3, a4, c1, c2, c3, c4⟩ s (.slice (some ⟨gp, 0, none⟩) m m) (.slice none 0 0) → Calls Try.prog 45 #[.pointer (some ⟨w1.heap.size, 0, none⟩)] V' fun e w' => e = .returned (.bool false) ∧ Below V'.heap.size V' w') := fun V' gp hr => (rightParents_any HADJ.out HF1.out hL hr).mono (by rintro e w' ⟨b, rfl, hb, hbl⟩; have : b = false := (by cases b; rfl; exact absurd (hb.1 rfl) hH); rw [this]; exact ⟨rfl, hbl⟩)
          have HN := Nu.hid (HNO.out (fun h => hH h.hang))
          clear hL hO hH
          go_wp2_with (first | (go_at_call 43; rw [← HV.out]; refine HLEN.out.mono ?_; rintro e w3 ⟨rfl, hb3⟩; have H3 := Nu.hid (HR.out.later hb3); clear hb3) | (go_at_call 44; refine (HONC.out _ H3.out).mono ?_; rintro e w4 ⟨gp, P, rfl, r4, i4, p4, n4, g4⟩; have R4 := Nu.hid r4; have I4 := Nu.hid i4; have P4 := Nu.hid p4; have N4 := Nu.hid n4; have G4 := Nu.hid g4; clear r4 i4 p4 n4 g4) | (go_at_call 45; refine (HPAR.out _ _ R4.out).mono ?_; rintro e w5 ⟨rfl, hb5⟩; have R5 := Nu.hid (R4.out.later hb5); have I5 := Nu.hid (I4.out.later hb5); clear hb5))
          go_ret2
          exact .inr ⟨_, rfl, HN.out, HUP.out _ R5.out.bel⟩
      · have HLEN : Hid (Calls Try.prog 43 #[.pointer (some ⟨w1.heap.size, 0, none⟩)] V fun e w' => e = .returned (.bool true) ∧ Below V.heap.size V w') := (lengths_any HADJ.out HR.out).mono (by rintro e w' ⟨b, rfl, hb, hbl⟩; rw [hb.2 hL]; exact ⟨rfl, hbl⟩)
        have HONC : Hid (∀ V', ReadAt w1 V' w1.heap.size (.pointer (some ⟨q, 0, none⟩)) ⟨a1, a2, a3, a4, c1, c2, c3, c4⟩ s (.slice none 0 0) (.slice none 0 0) → Calls Try.prog 44 #[.pointer (some ⟨w1.heap.size, 0, none⟩)] V' fun e w' => e = .returned (.bool false) ∧ Below w1.heap.size w1 w') := fun V' hr => (eachOnce_any HADJ.out HF1.out hL hr).mono (by rintro e w' (⟨gp, P, h1, h2, h3⟩ | ⟨h1, _, h3⟩); exact absurd h2 hO; exact ⟨h1, h3⟩)
        have HN := Nu.hid (HNO.out (fun h => hO h.once))
        clear hL hO
        go_wp2_with (first | (go_at_call 43; rw [← HV.out]; refine HLEN.out.mono ?_; rintro e w3 ⟨rfl, hb3⟩; have H3 := Nu.hid (HR.out.later hb3); clear hb3) | (go_at_call 44; refine (HONC.out _ H3.out).mono ?_; rintro e w4 ⟨rfl, hb4⟩; have HB4 := Nu.hid hb4; clear hb4))
        go_ret2
        exact .inr ⟨_, rfl, HN.out, HUP.out _ HB4.out⟩
    · have HLEN : Hid (Calls Try.prog 43 #[.pointer (some ⟨w1.heap.size, 0, none⟩)] V fun e w' => e = .returned (.bool false) ∧ Below V.heap.size V w') := (lengths_any HADJ.out HR.out).mono (by rintro e w' ⟨b, rfl, hb, hbl⟩; have : b = false := (by cases b; rfl; exact absurd (hb.1 rfl) hL); rw [this]; exact ⟨rfl, hbl⟩)
      have HN := Nu.hid (HNO.out (fun h => hL h.lens))
      clear hL
      go_wp2_with (first | (go_at_call 43; rw [← HV.out]; refine HLEN.out.mono ?_; rintro e w3 ⟨rfl, hb3⟩; have H3 := Nu.hid (HR.out.later hb3); clear hb3))
      go_ret2
      exact .inr ⟨_, rfl, HN.out, HUP.out _ H3.out.bel⟩
