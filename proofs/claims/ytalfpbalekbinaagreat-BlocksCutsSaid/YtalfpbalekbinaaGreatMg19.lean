import Derived.Test.YtalfpbalekbinaaGreatMg18
/-
  find: the finder goes the way of the walk once more; all blocks are found.
-/
namespace Go.Proofs.YtalfpbalekbinaaGreat
open Go.RowKit Go.Sort

def FindPost (x : Fx) (w0 : World) (e : Ending) (w' : World) : Prop :=
  e = .returned (.tuple #[]) ∧ ∃ S Y F, FinAt x w0 w' S Y F ∧ Bl.Fi x.es x.s (fun e => Bl.En x.s x.n (Bl.ev x.es x.s e)) [] S Y F

theorem enter_any9 (x : Fx) (w0 w : World) (j : Nat) (T0 : List Nat) (S : List (Nat × Int)) (Y : List Nat) (F : List (List Nat)) (h : FinAt x w0 w S Y F) (f : Bl.Fi x.es x.s (fun e => Bl.En x.s j (Bl.ev x.es x.s e)) (T0.take (Bl.dep x.s j)) S Y F) (hj : j < x.n) (p : Bl.Pos x.es x.s j T0) (P : Bl.Path x.es x.s T0) :
    Calls Tryz.prog 54 #[.pointer (some ⟨x.p, 0, none⟩), .int .i64 (Bl.vtx x.s j : Int)] w (EnterPost9 x w0 j) := by
  by_cases hp : Df.at_ x.s.par (Bl.vtx x.s j) = -1
  · exact enter_root x w0 w j T0 S Y F h f hj hp
  · exact enter_child x w0 w j T0 S Y F h f hj p P hp

set_option maxRecDepth 100000 in
set_option maxHeartbeats 16000000 in
theorem find_any9 (x : Fx) (w0 w : World) (h : FinAt x w0 w [] [] []) :
    Calls Tryz.prog 31 #[.pointer (some ⟨x.p, 0, none⟩)] w (FindPost x w0) := by
  obtain ⟨hok, hbel⟩ : x.Ok w0 ∧ Below w0.heap.size w0 w := by
    obtain ⟨_, _, _, _, h⟩ := h
    exact ⟨h.ok, h.below⟩
  have hval := hok.val
  have hvf := hok.vf
  have hlo := hval.hi
  have H := Nu.hid h
  have c3 : w.cell? ⟨x.p, 3, none⟩ = some (.slice x.f.a3 x.n x.f.c3) := by
    obtain ⟨_, _, _, _, h⟩ := h
    exact (h.cells (i := 3) rfl).1
  have HC2 : Hid (∀ W S Y F, FinAt x w0 W S Y F → W.cell? ⟨x.p, 2, none⟩ = some (.slice x.f.a2 x.n x.f.c2) ∧ Below w0.heap.size w0 W) := fun W S Y F hW => by
    obtain ⟨_, _, _, _, h⟩ := hW
    exact ⟨(h.cells (i := 2) rfl).1, h.below⟩
  clear h hbel
  go_enter Tryz.func31, Tryz.ntmps31
  go_wp2
  go_loopw [10] (fun cv wr => ∃ j : Nat, j ≤ x.n ∧ cv = .int .i64 (j : Int) ∧ ∃ T S Y F, FinAt x w0 wr S Y F ∧ Bl.Fi x.es x.s (fun e => Bl.En x.s j (Bl.ev x.es x.s e)) T S Y F ∧ Bl.Pos x.es x.s j T) (fun cv _ => x.n - (intOf cv).toNat)
  case atStart => exact ⟨0, Nat.zero_le _, rfl, [], [], [], [], H.out, Bl.Fi.start x.es x.s (fun e _ => Bl.en_zero _), ⟨fun _ => rfl, fun t ht => (by cases ht), fun i hi => (by omega)⟩⟩
  case round =>
    clear H
    obtain ⟨j, hj, rfl, T, S, Y, F, hfin, hfi, hpos⟩ := hrel
    by_cases hjn : j < x.n
    · have hlti : (j : Int) < (x.n : Int) := by omega
      have j0 : (0 : Int) ≤ (j : Int) := by omega
      obtain ⟨c2, hbr⟩ := HC2.out wr S Y F hfin
      obtain ⟨ev0, hvn⟩ := Bl.vtx_eq hvf hjn
      obtain ⟨b3, o3, ef3, hc3⟩ := hok.ord hjn
      obtain ⟨b2, o2, ef2, hc2⟩ := hok.hei hvn
      have d3 := hc3 wr hbr j hjn
      rw [ev0] at d3
      have d2 := hc2 wr hbr _ hvn
      have hr := Df.rooted_of hval hvf.once hvf.hang hvf.side _ hvn
      have hdT := hpos.deep hval hvf hjn
      have HLV := Nu.hid (leave_any9 x w0 wr _ T S Y F (Bl.dep x.s j) hfin hfi hdT (fun T1 t r hT hd e he ha => hpos.whole hval hvf hjn hfi.path hT hd (Bl.ev_lt hval hvf he) ha))
      have HEN : Hid (∀ W S' Y' F', FinAt x w0 W S' Y' F' → Bl.Fi x.es x.s (fun e => Bl.En x.s j (Bl.ev x.es x.s e)) (T.take (Bl.dep x.s j)) S' Y' F' → Calls Tryz.prog 54 #[.pointer (some ⟨x.p, 0, none⟩), .int .i64 (Bl.vtx x.s j : Int)] W (EnterPost9 x w0 j)) := fun W S' Y' F' h1 h2 => enter_any9 x w0 W j T S' Y' F' h1 h2 hjn hpos hfi.path
      have hdep : (Bl.dep x.s j : Int) = if Df.at_ x.s.hei (Bl.vtx x.s j) - 1 > 0 then Df.at_ x.s.hei (Bl.vtx x.s j) - 1 else 0 := by
        unfold Bl.dep
        split <;> omega
      obtain ⟨u, hu⟩ : ∃ u, Df.at_ x.s.hei (Bl.vtx x.s j) = u + 1 := ⟨Df.at_ x.s.hei (Bl.vtx x.s j) - 1, by omega⟩
      rw [hu] at d2 hr hdep
      rw [show u + 1 - 1 = u by omega] at hdep
      rw [hdep] at HLV
      obtain ⟨v, hv⟩ : ∃ v, Bl.vtx x.s j = v := ⟨_, rfl⟩
      rw [hv] at d3 d2 hvn HEN
      have v0 : (0 : Int) ≤ (v : Int) := by omega
      have v1 : (v : Int) < (x.n : Int) := by omega
      have u0 : -1 ≤ u := by omega
      have u1 : u ≤ 4611686018427387904 := by omega
      have e1 : u + 1 - 1 = u := by omega
      rw [ef2] at c2
      have HE3 := Nu.hid ef3
      clear hfin hfi hpos hr hdep hu hv ev0 hc3 hc2 ef2 hdT hbr hvn
      rw [ef3]
      by_cases hu0 : u > 0
      · rw [if_pos hu0] at HLV
        go_wp2_with (first | (go_at_call 53; refine HLV.out.mono ?_; rintro e w1 ⟨rfl, S1, Y1, F1, q1, q2⟩; have Q1 := Nu.hid q1; have Q2 := Nu.hid q2; clear q1 q2) | (go_at_call 54; refine (HEN.out _ _ _ _ Q1.out Q2.out).mono ?_; rintro e w2 ⟨rfl, hq⟩; refine Hid.out ?_))
        refine Nu.hid ?_
        have HQ := Nu.hid hq
        clear hq
        go_wp2
        go_roundw
        case rel => exact ⟨j + 1, by omega, by go_num, HQ.out⟩
        case measure => simp [intOf]; omega
      · rw [if_neg hu0] at HLV
        go_wp2_with (first | (go_at_call 53; refine HLV.out.mono ?_; rintro e w1 ⟨rfl, S1, Y1, F1, q1, q2⟩; have Q1 := Nu.hid q1; have Q2 := Nu.hid q2; clear q1 q2) | (go_at_call 54; refine (HEN.out _ _ _ _ Q1.out Q2.out).mono ?_; rintro e w2 ⟨rfl, hq⟩; refine Hid.out ?_))
        refine Nu.hid ?_
        have HQ := Nu.hid hq
        clear hq
        go_wp2
        go_roundw
        case rel => exact ⟨j + 1, by omega, by go_num, HQ.out⟩
        case measure => simp [intOf]; omega
    · have hlti : ¬ (j : Int) < (x.n : Int) := by omega
      obtain rfl : j = x.n := by omega
      have HLV := Nu.hid (leave_any9 x w0 wr _ T S Y F 0 hfin hfi (Nat.zero_le _) (fun T1 t r hT hd e he ha => Bl.en_all hvf (Bl.ev_lt hval hvf he)))
      clear hfin hfi hpos
      go_wp2_with (go_at_call 53; refine HLV.out.mono ?_; rintro e w1 ⟨rfl, S1, Y1, F1, q1, q2⟩; have Q1 := Nu.hid q1; have Q2 := Nu.hid q2; clear q1 q2)
      go_end0
      exact ⟨rfl, S1, Y1, F1, Q1.out, Q2.out⟩
end Go.Proofs.YtalfpbalekbinaaGreat
