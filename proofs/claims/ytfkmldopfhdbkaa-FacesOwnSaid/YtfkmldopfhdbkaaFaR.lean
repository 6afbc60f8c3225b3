/-
  Faces, the document: the steps, and all faces.
-/
import Derived.Test.YtfkmldopfhdbkaaMg13
import Derived.Test.YtfkmldopfhdbkaaMg15
import Derived.Test.YtfkmldopfhdbkaaRoRNx
namespace Go.Proofs.Ytfkmldopfhdbkaa
open Go.RowKit Go.Sort

set_option maxRecDepth 100000 in
set_option maxHeartbeats 4000000 in
theorem rtwin_any (h : Nat) (w : World) (hh : h ≤ 4611686018427387904) :
    Calls Try.prog 50 #[.int .i64 (h : Int)] w fun e w' => e = .returned (.int .i64 (Cs.twin h : Int)) ∧ Below w.heap.size w w' := by
  have hj0 : (0 : Int) ≤ (h : Int) := by omega
  have HB := Nu.hid (Below.refl w.heap.size w)
  obtain ⟨t, ht⟩ : ∃ t, t = Cs.twin h := ⟨_, rfl⟩
  rw [← ht]
  rcases Nat.mod_two_eq_zero_or_one h with h2 | h2
  · have hm1 : (h : Int).tmod 2 = 0 := by rw [Int.tmod_eq_emod_of_nonneg hj0]; omega
    have hm2 : (h : Int) % 2 = 0 := by omega
    have he : t = h + 1 := by rw [ht]; unfold Cs.twin; rw [if_pos h2]
    have q1 : IntKind.i64.wrap ((h : Int) + 1) = (t : Int) := by rw [IntKind.wrap_i64]; omega
    have q2 : (h : Int) + 1 = (t : Int) := by omega
    clear ht he h2
    go_enter Try.func50, Try.ntmps50
    go_wp2
    go_ret
    exact ⟨rfl, HB.out⟩
  · have hm1 : (h : Int).tmod 2 = 1 := by rw [Int.tmod_eq_emod_of_nonneg hj0]; omega
    have hm2 : (h : Int) % 2 = 1 := by omega
    have he : t + 1 = h := by rw [ht]; unfold Cs.twin; rw [if_neg (by omega)]; omega
    have q1 : IntKind.i64.wrap ((h : Int) - 1) = (t : Int) := by rw [IntKind.wrap_i64]; omega
    have q2 : (h : Int) - 1 = (t : Int) := by omega
    clear ht he h2
    go_enter Try.func50, Try.ntmps50
    go_wp2
    go_ret
    exact ⟨rfl, HB.out⟩

namespace Fa
/-- The steps as a list. -/
def stepsL (f : Nat → Nat) (k : Nat) : List Int := (List.range k).map fun h => (f h : Int)
theorem stepsL_len (f : Nat → Nat) (k : Nat) : (stepsL f k).length = k := by simp [stepsL]
theorem stepsL_at {f : Nat → Nat} {k h : Nat} (hh : h < k) : (stepsL f k)[h]? = some (f h : Int) := by
  unfold stepsL
  rw [List.getElem?_map, List.getElem?_range hh]
  rfl
theorem stepsL_succ (f : Nat → Nat) (k : Nat) : stepsL f (k + 1) = stepsL f k ++ [(f k : Int)] := by
  unfold stepsL
  rw [List.range_succ, List.map_append]
  rfl
theorem way_new {n : Nat} {f : Nat → Nat} (hp : Per n f) {h p j : Nat} (hh : h < n) (hl : IsLen f n h p) (hj : j < p) : Pl.it f j h ∉ way f h j := fun hc => by
  unfold way at hc
  obtain ⟨i, hi, e⟩ := List.mem_map.1 hc
  rw [List.mem_range] at hi
  refine hl.first (j - i) (by omega) (by omega) ?_
  have e2 : Pl.it f j h = Pl.it f i (Pl.it f (j - i) h) := by rw [← Pl.it_add]; congr 1; omega
  rw [e2] at e
  exact (Pl.it_inj hp.lt hp.inj i hh (Pl.it_lt hp.lt _ hh) e).symm
end Fa

/-- What Step answers. -/
def StpQ (c : Int) (L : List Int) (w : World) (e : Ending) (w' : World) : Prop :=
  Below w.heap.size w w' ∧ ∃ v, e = .returned (.tuple #[v, .int .i64 c]) ∧ ((c ≠ 0 ∧ v = .slice none 0 0) ∨ (c = 0 ∧ OwnZ w' w.heap.size v L))

set_option maxRecDepth 100000 in
set_option maxHeartbeats 4000000 in
theorem rstep_any (n : Int) (ao : Option Addr) (ca : Nat) (es : List (Int × Int)) (xo : Option Addr) (xc : Nat) (ls : List (List Int)) (w : World) (he : EdgesAt w ao es) (hl : es.length ≤ 4611686018427387904) (hx : RwsAt w xo ls) :
    Calls Try.prog 33 #[graphVal n ao es.length ca, .slice xo ls.length xc] w (StpQ (Ro.check n es ls).2 (Fa.stepsL (Fa.ph es ls) (2 * es.length)) w) := by
  have hb0 : Below w.heap.size w (w.alloc (.cells #[.int .i64 n, .slice ao es.length ca] 24)) := (Below.refl _ _).alloc (Nat.le_refl _) _
  have HN := Nu.hid (r11next_any n ao ca es xo xc ls _ (he.later hb0) hl (hx.later hb0))
  have HB0 := Nu.hid hb0
  unfold graphVal at HN ⊢
  obtain ⟨C, hC⟩ : ∃ C, C = (Ro.check n es ls).2 := ⟨_, rfl⟩
  have HC := Nu.hid hC
  rw [← hC]
  clear he hx hb0 hC
  go_enter Try.func33, Try.ntmps33
  go_wp2_with (go_at_call 49; refine HN.out.mono ?_; intro e w1 hp; obtain ⟨hb1, ⟨hc, rfl⟩ | ⟨hc, g, rfl, hg, hi⟩⟩ := hp <;> refine Hid.out ?_)
  all_goals refine Nu.hid ?_
  · have HB := Nu.hid (HB0.out.trans (hb1.mono HB0.out.size))
    rw [← HC.out] at hc ⊢
    have HC1 := Nu.hid hc
    clear hc hb1
    go_wp2
    refine wp_loop_rounds 1 ?_
    rw [rounds_succ]
    go_wp2
    go_ret2
    exact ⟨HB.out, _, rfl, .inl ⟨HC1.out, rfl⟩⟩
  · have hr := Ro.check_iff.1 hc
    have hv := Si.valid_iff.1 hr.val
    obtain ⟨N, rfl⟩ : ∃ N : Nat, n = (N : Int) := ⟨n.toNat, by have := hv.lo; omega⟩
    have hst := steps_of hc hi
    have hfew := hst.few
    have HST := Nu.hid hst
    have HB := Nu.hid (HB0.out.trans (hb1.mono HB0.out.size))
    have hs1 := HB.out.size
    rw [← HC.out] at hc
    have HC1 := Nu.hid hc
    obtain ⟨M, hM⟩ : ∃ M, M = 2 * es.length := ⟨_, rfl⟩
    rw [← hM] at HST hfew ⊢
    have hev := HST.out.even
    have HMM := Nu.hid hM
    clear hc hb1 hg hi hr hv hst hM
    go_wp2
    go_loopw [8, 9] (fun c8 c9 wr => ∃ k : Nat, k ≤ M ∧ c9 = .int .i64 (k : Int) ∧ OwnZ wr w1.heap.size c8 (Fa.stepsL (Fa.ph es ls) k) ∧ Below w1.heap.size w1 wr) (fun _ c9 _ => M - (intOf c9).toNat)
    case atStart => exact ⟨0, Nat.zero_le _, rfl, OwnZ.nil _ _, Below.refl _ _⟩
    case round =>
      obtain ⟨k, hk, rfl, hO, hb⟩ := hrel
      obtain ⟨W0, rfl⟩ : ∃ W0, W0 = wr := ⟨_, rfl⟩
      obtain ⟨uo, uc, hue, -⟩ := hO.form
      rw [Fa.stepsL_len] at hue
      subst hue
      have HO := Nu.hid hO
      have HBB := Nu.hid hb
      have hwk : IntKind.i64.wrap ((k : Int) + 1) = (k : Int) + 1 := by rw [IntKind.wrap_i64]; omega
      by_cases hlt : k < M
      · have hlti : (k : Int) < (M : Int) := by omega
        have hk0 : (0 : Int) ≤ (k : Int) := by omega
        have HT := Nu.hid (rtwin_any k W0 (by omega))
        have htl : Cs.twin k < M := by
          have := Cs.twin_lt (i := k) (m := M / 2) (by omega)
          omega
        have hcl := fun U (hU : Below w1.heap.size w1 U) => (HST.out.later hU).cell k hlt
        obtain ⟨t, ht⟩ : ∃ t, t = Cs.twin k := ⟨_, rfl⟩
        rw [← ht] at HT htl
        simp only [← ht] at hcl
        have HCL := Nu.hid hcl
        have ti0 : (0 : Int) ≤ (t : Int) := by omega
        have ti1 : (t : Int) < (M : Int) := by omega
        clear hO hb ht hcl
        go_wp2_with (go_at_call 50; refine HT.out.mono ?_; rintro e w2 ⟨rfl, hb2⟩; refine Hid.out ?_)
        refine Nu.hid ?_
        have HB2 := Nu.hid (HBB.out.trans (hb2.mono HBB.out.size))
        have HO2 := Nu.hid (HO.out.later hb2)
        have hs2 := HB2.out.size
        have hcc := HCL.out w2 HB2.out
        clear hb2
        go_wp2_with (at_builtin; refine wpList_push rfl _ _ rfl w2 w1.heap.size _ (Fa.stepsL (Fa.ph es ls) k) (Fa.ph es ls k : Int) HO2.out hs2 (by rw [Fa.stepsL_len]; omega) rfl rfl ?_; refine Hid.out ?_)
        refine Nu.hid ?_
        intro v' w3 ho3 hg3 hat3 hb3
        have HO3 : Hid (OwnZ w3 w1.heap.size v' (Fa.stepsL (Fa.ph es ls) (k + 1))) := by
          rw [Fa.stepsL_succ]
          exact ho3
        have HB3 := Nu.hid (HB2.out.trans hb3)
        clear ho3 hg3 hat3 hb3 hcc
        go_wp2
        go_roundw
        case rel => exact ⟨k + 1, by omega, by go_num, HO3.out, HB3.out⟩
        case measure => simp [intOf]; omega
      · have hd : ¬ (k : Int) < (M : Int) := by omega
        have hkM : k = M := by omega
        have HOE : Hid (OwnZ W0 w.heap.size (.slice uo k uc) (Fa.stepsL (Fa.ph es ls) (2 * es.length))) := by
          have h1 := hO.lower hs1
          rw [hkM] at h1 ⊢
          rw [← HMM.out]
          exact h1
        clear hO hb hkM
        go_wp2
        go_ret2
        exact ⟨HB.out.trans (HBB.out.mono hs1), .slice uo k uc, by rw [HC1.out]; rfl, .inr ⟨HC1.out, HOE.out⟩⟩

end Go.Proofs.Ytfkmldopfhdbkaa
