/-
  All that is reached from a root.
-/
import Derived.Test.YtponmjipbcmlhaaDfStep
namespace Go.Proofs.Ytponmjipbcmlhaa
open Go.RowKit

/-- The least number that has P; 0, if none has. -/
noncomputable def leastOf (P : Nat → Prop) : Nat := open Classical in if h : ∃ k, P k ∧ ∀ j, P j → k ≤ j then Classical.choose h else 0

theorem ex_least {P : Nat → Prop} {k : Nat} (h : P k) : ∃ k, P k ∧ ∀ j, P j → k ≤ j := by
  induction k using Nat.strongRecOn with
  | _ k ih =>
    by_cases hk : ∃ j, j < k ∧ P j
    · obtain ⟨j, hj, hp⟩ := hk
      exact ih j hj hp
    · refine ⟨k, h, fun j hj => ?_⟩
      rcases Nat.lt_or_ge j k with h1 | h1
      · exact absurd ⟨j, h1, hj⟩ hk
      · exact h1

theorem leastOf_spec {P : Nat → Prop} {k : Nat} (h : P k) : P (leastOf P) ∧ leastOf P ≤ k := by
  have hx := ex_least h
  unfold leastOf
  rw [dif_pos hx]
  have := Classical.choose_spec hx
  exact ⟨this.1, this.2 k h⟩

namespace Df

/-- What stands on the stack for the half-edges that are left of a vertex. -/
def hd : List Nat → Int
  | [] => -1
  | h :: _ => (h : Int)

/-- L is what is left of a vertex. -/
def Suf (n : Nat) (es : List (Int × Int)) (L : List Nat) : Prop := ∃ v i, v < n ∧ L = (Cs.out es v (2 * es.length)).drop i

theorem hd_getD (L : List Nat) (i : Nat) : (L.map fun i : Nat => (i : Int)).getD i (-1) = hd (L.drop i) := by
  rw [List.getD_eq_getElem?_getD, List.getElem?_map]
  cases h : L[i]? with
  | none =>
    rw [List.drop_of_length_le (List.getElem?_eq_none_iff.1 h)]
    rfl
  | some x =>
    obtain ⟨hi, hx⟩ := List.getElem?_eq_some_iff.1 h
    rw [List.drop_eq_getElem_cons hi, hx]
    rfl

theorem first_hd {n : Nat} {es : List (Int × Int)} {v : Nat} (hv : v < n) : Cs.firstI n es v = hd (Cs.out es v (2 * es.length)) := by
  unfold Cs.firstI Cs.outZ
  rw [Cs.outI_in hv, hd_getD]
  rfl

theorem Suf.all {n : Nat} {es : List (Int × Int)} {v : Nat} (hv : v < n) : Suf n es (Cs.out es v (2 * es.length)) := ⟨v, 0, hv, rfl⟩

theorem Suf.step {n : Nat} {es : List (Int × Int)} {h : Nat} {L : List Nat} (hs : Suf n es (h :: L)) : h < 2 * es.length ∧ Suf n es L ∧ Cs.afterI n es h = hd L := by
  obtain ⟨v, i, hv, e⟩ := hs
  have hi : (Cs.out es v (2 * es.length))[i]? = some h := by
    have := congrArg (fun l : List Nat => l[0]?) e
    simpa using this.symm
  have hL : L = (Cs.out es v (2 * es.length)).drop (i + 1) := by
    have := congrArg List.tail e
    simpa using this
  obtain ⟨h1, h2, h3⟩ := Cs.out_of hi
  refine ⟨h1, ⟨v, i + 1, hv, hL⟩, ?_⟩
  unfold Cs.afterI Cs.outZ
  rw [if_pos (by omega), Int.toNat_natCast, h2, h3, Cs.outI_in hv, hd_getD, ← hL]

theorem Suf.half {n : Nat} {es : List (Int × Int)} {L : List Nat} (hs : Suf n es L) : ∀ x ∈ L, x < 2 * es.length := by
  obtain ⟨v, i, hv, rfl⟩ := hs
  exact fun x hx => out_half x (List.mem_of_mem_drop hx)

/-- All that is on the stack is walked, the top first. -/
inductive RS (es : List (Int × Int)) : Nat → St → List (List Nat) → St → Prop
  | nil (s : St) : RS es 0 s [] s
  | cons {j k : Nat} {s s1 s' : St} {L : List Nat} {T : List (List Nat)} (h1 : R es j s L s1) (h2 : RS es k s1 T s') : RS es (j + k + 1) s (L :: T) s'

/-- The stack, the bottom first. -/
def stk (T : List (List Nat)) : List Int := (T.map hd).reverse
theorem stk_cons (L : List Nat) (T : List (List Nat)) : stk (L :: T) = stk T ++ [hd L] := by simp [stk]
theorem stk_len (T : List (List Nat)) : (stk T).length = T.length := by simp [stk]

end Df

/-- The walk is under way, k is still to be done, and it comes to s'. -/
def TInv (w0 : World) (p gp gh gr : Nat) (av : Value) (n r : Nat) (es : List (Int × Int)) (s' : Df.St) (w : World) (k : Nat) : Prop :=
  ∃ s T ov sv, Df.RS es k s T s' ∧ Df.Bd n es r s ∧ (∀ L ∈ T, Df.Suf n es L) ∧ T.length + s.left ≤ es.length + 1 ∧ WalkAt w0 w p gp gh gr av ov sv n es.length s (Df.stk T)

section
variable {w0 w : World} {p gp gh gr : Nat} {av ov sv : Value} {n r : Nat} {es : List (Int × Int)} {s s' : Df.St}

set_option maxRecDepth 100000 in
set_option maxHeartbeats 16000000 in
theorem walkTree_any (v k : Nat) (hadj : IsAdj w0 av n es) (hW : WalkAt w0 w p gp gh gr av ov sv n es.length s []) (b : Df.Bd n es r s) (hv : v < n) (hr : r ≤ 1048576) (hR : Df.R es k (s.reach v (-1) 0) (Cs.out es v (2 * es.length)) s') :
    Calls Try.prog 41 #[.pointer (some ⟨p, 0, none⟩), .int .i64 (v : Int)] w (WPost w0 p gp gh gr av n es s' []) := by
  obtain ⟨hbn, hbm⟩ := hadj.bounds
  have hord := b.hr
  have hRE := reach_any v (-1) 0 hadj hW b.lp b.lh hv (by omega) (by simp)
  rw [Df.first_hd hv, List.nil_append] at hRE
  have hinv : ∀ V ov' sv', WalkAt w0 V p gp gh gr av ov' sv' n es.length (s.reach v (-1) 0) [Df.hd (Cs.out es v (2 * es.length))] → TInv w0 p gp gh gr av n (r + 1) es s' V (k + 0 + 1) := fun V ov' sv' h =>
    ⟨s.reach v (-1) 0, [Cs.out es v (2 * es.length)], ov', sv', .cons hR (.nil s'), b.root hv, fun L hL => by rw [List.mem_singleton] at hL; subst hL; exact Df.Suf.all hv, by have := b.few; show 1 + s.left ≤ _; omega, h⟩
  have HRE := Nu.hid hRE
  have HINV := Nu.hid hinv
  have HADJ := Nu.hid hadj
  have hav : ∃ q, av = .pointer q := by
    rcases hadj with ⟨h, _⟩ | ⟨_, p, h, _⟩
    · exact ⟨_, h⟩
    · exact ⟨_, h⟩
  obtain ⟨q, rfl⟩ := hav
  clear hRE hinv hR hW hord hadj b
  go_enter Try.func41, Try.ntmps41
  go_wp2_with (go_at_call 55; refine HRE.out.mono ?_; rintro e w1 ⟨rfl, ov1, sv1, h1⟩; have HT1 := Nu.hid (HINV.out w1 ov1 sv1 h1); clear h1)
  clear HRE HINV
  go_loopw [4] (fun _ wr => ∃ k, TInv w0 p gp gh gr (.pointer q) n (r + 1) es s' wr k) (fun _ wr => leastOf (TInv w0 p gp gh gr (.pointer q) n (r + 1) es s' wr))
  case atStart => exact ⟨_, HT1.out⟩
  case round =>
    obtain ⟨k0, hk0⟩ := hrel
    obtain ⟨hI, -⟩ := leastOf_spec hk0
    obtain ⟨k, hk⟩ : ∃ k, leastOf (TInv w0 p gp gh gr (.pointer q) n (r + 1) es s' wr) = k := ⟨_, rfl⟩
    rw [hk] at hI
    have HK := Nu.hid hk
    have HLESS : Hid (∀ V k', TInv w0 p gp gh gr (.pointer q) n (r + 1) es s' V k' → k' < k → leastOf (TInv w0 p gp gh gr (.pointer q) n (r + 1) es s' V) < leastOf (TInv w0 p gp gh gr (.pointer q) n (r + 1) es s' wr)) := fun V k' h1 h2 => by
      rw [hk]
      have := (leastOf_spec h1).2
      omega
    clear hk hk0 HK
    obtain ⟨s, T, ov, sv, hRS, b, hsuf, hlen, hw⟩ := hI
    cases T with
    | nil =>
      cases hRS
      have he := empty_any p 5 _ _ _ _ _ wr hw.stk
      have hd0 : decide ((Df.stk []).length = 0) = true := rfl
      rw [hd0] at he
      have HE := Nu.hid he
      have HW := Nu.hid hw
      clear he hw hd0 hsuf hlen b
      go_wp2_with (go_at_call 56; refine HE.out.mono ?_; rintro e w2 ⟨rfl, rfl⟩)
      go_end0
      exact ⟨rfl, ov, sv, HW.out⟩
    | cons L T =>
      cases hRS with
      | cons h1 h2 =>
      rename_i j k1 s1
      rw [Df.stk_cons] at hw
      have hTl : (Df.stk T).length ≤ 17592186044000 := by rw [Df.stk_len]; simp at hlen; omega
      have he := empty_any p 5 _ _ _ _ _ wr hw.stk
      have hd0 : decide ((Df.stk T ++ [Df.hd L]).length = 0) = false := by simp
      rw [hd0] at he
      have HE := Nu.hid he
      have hpop := (pop_any p 5 _ _ _ _ (Df.stk T) (Df.hd L) wr hw.stk hTl).mono (R' := fun e w' => e = .returned (.int .i64 (Df.hd L)) ∧ ∃ sv', WalkAt w0 w' p gp gh gr (.pointer q) ov sv' n es.length s (Df.stk T)) (fun e w' hp => ⟨hp.1, hw.popped hp⟩)
      have HPOP := Nu.hid hpop
      clear he hpop hw hd0
      cases L with
      | nil =>
        cases h1
        have hTI : ∀ V sv', WalkAt w0 V p gp gh gr (.pointer q) ov sv' n es.length s (Df.stk T) → TInv w0 p gp gh gr (.pointer q) n (r + 1) es s' V k1 := fun V sv' h => ⟨s, T, ov, sv', h2, b, fun L hL => hsuf L (List.mem_cons_of_mem _ hL), by simp at hlen; omega, h⟩
        have HTI := Nu.hid hTI
        have HLT : Hid (k1 < 0 + k1 + 1) := show k1 < 0 + k1 + 1 by omega
        unfold Df.hd at HPOP
        clear hTI h2 b hsuf hlen hTl
        go_wp2_with (first | (go_at_call 56; refine HE.out.mono ?_; rintro e w2 ⟨rfl, rfl⟩) | (go_at_call 57; refine HPOP.out.mono ?_; rintro e w3 ⟨rfl, sv3, h3⟩; have HT3 := Nu.hid (HTI.out w3 sv3 h3); clear h3))
        go_roundw
        case rel => exact ⟨_, HT3.out⟩
        case measure => exact HLESS.out _ _ HT3.out HLT.out
      | cons h L =>
        obtain ⟨hh, hsL, haft⟩ := (hsuf _ List.mem_cons_self).step
        have hval := HADJ.out.val hh
        have hsT : ∀ X ∈ L :: T, Df.Suf n es X := fun X hX => by
          rcases List.mem_cons.1 hX with rfl | hX
          · exact hsL
          · exact hsuf X (List.mem_cons_of_mem _ hX)
        have hlen' : T.length + 1 + s.left ≤ es.length + 1 := by simpa using hlen
        unfold Df.hd at HPOP
        have hne : (((h : Nat) : Int) == -1) = false := by simp only [beq_eq_false_iff_ne, ne_eq]; omega
        have HPU : Hid (∀ V sv', WalkAt w0 V p gp gh gr (.pointer q) ov sv' n es.length s (Df.stk T) → (∀ U, Below V.heap.size V U → Calls Try.prog 59 #[.pointer q, .int .i64 (h : Int)] U fun e U' => e = .returned (.int .i64 (Df.hd L)) ∧ Below U.heap.size U U') ∧ (∀ U, Below V.heap.size V U → Calls Try.prog 58 #[.pointer (some ⟨p, 5, none⟩), .int .i64 (Df.hd L)] U fun e U' => e = .returned (.tuple #[]) ∧ (∃ sv, WalkAt w0 U' p gp gh gr (.pointer q) ov sv n es.length s (Df.stk (L :: T))) ∧ U'.cell? ⟨p, 0, none⟩ = some (.pointer q)) ∧ ∀ U, Below V.heap.size V U → U.cell? ⟨p, 0, none⟩ = some (.pointer q)) := fun V sv' hV => by
          refine ⟨fun U hU => ?_, fun U hU => ?_, fun U hU => (hV.later hU).c0⟩
          · have := after_any _ n es h U (HADJ.out.later (hV.bel.trans (hU.mono hV.bel.size)))
            rw [haft] at this
            exact this.mono (by rintro e U' ⟨rfl, k, rfl⟩; exact ⟨rfl, below_drewN (Below.refl _ _) k⟩)
          · have hU2 := hV.later hU
            refine (push_any p 5 _ _ _ _ (Df.stk T) (Df.hd L) U hU2.stk hU2.bel.size hTl).mono ?_
            intro e U' hp
            obtain ⟨sv2, h2⟩ := hU2.pushed hp
            rw [← Df.stk_cons] at h2
            exact ⟨hp.1, ⟨sv2, h2⟩, h2.c0⟩
        have hord := b.hr
        have hL2 : (Df.stk (L :: T)).length ≤ 17592186044000 := by rw [Df.stk_len]; simp; omega
        have HWK : Hid (∀ V sv', WalkAt w0 V p gp gh gr (.pointer q) ov sv' n es.length s (Df.stk (L :: T)) → Calls Try.prog 60 #[.pointer (some ⟨p, 0, none⟩), .int .i64 (h : Int)] V fun e w' => e = .returned (.bool (s.dir (h / 2) != -1)) ∧ w' = V) := fun V sv' hV => walked_any h hV b.lo hh hbm
        have HLE : Hid (∀ a : Nat, a < j → a + k1 + 1 < j + k1 + 1) := fun a ha => by omega
        cases h1 with
        | old hw hr' =>
          rename_i kk
          have hb : (s.dir (h / 2) != -1) = true := by simpa using hw
          rw [hb] at HWK
          have HTI : Hid (∀ V sv', WalkAt w0 V p gp gh gr (.pointer q) ov sv' n es.length s (Df.stk (L :: T)) → TInv w0 p gp gh gr (.pointer q) n (r + 1) es s' V (kk + k1 + 1)) := fun V sv' hV => ⟨s, L :: T, ov, sv', .cons hr' h2, b, hsT, hlen', hV⟩
          clear hw hr' h2 b hsuf hsL hsT hlen hlen' haft hval hord hTl hL2 hb
          go_wp2_with (first | (go_at_call 56; refine HE.out.mono ?_; rintro e w2 ⟨rfl, rfl⟩) | (go_at_call 57; refine HPOP.out.mono ?_; rintro e w3 ⟨rfl, sv3, h3⟩; obtain ⟨HA, HP, HC⟩ := HPU.out w3 sv3 h3; have HA' := Nu.hid HA; have HP' := Nu.hid HP; have HC' := Nu.hid HC; have hbd : Below w3.heap.size w3 w3.drew := (Below.refl _ _).drew; clear HA HP HC h3))
          go_region_held3 (fun V => V.cell? ⟨p, 0, none⟩ = some (.pointer q))
            (first | exact HC'.out _ (by first | assumption | exact hbd) | assumption)
            ((first
              | (go_at_call 59; refine (HA'.out _ (by first | assumption | exact hbd)).mono ?_; rintro e V1 ⟨rfl, hv1⟩; have hb1 : Below w3.heap.size w3 V1 := Below.trans (by first | assumption | exact hbd) (hv1.mono (Below.size (by first | assumption | exact hbd))))
              | (go_at_call 58; refine (HP'.out _ (by first | assumption | exact hbd)).mono ?_; rintro e V2 ⟨rfl, hv2, hs2⟩)))
          obtain ⟨sv4, h4⟩ := hv2
          have HW4 := Nu.hid (HWK.out V2 sv4 h4)
          have HT4 := Nu.hid (HTI.out V2 sv4 h4)
          clear h4 hs2
          go_wp2_with (go_at_call 60; refine HW4.out.mono ?_; rintro e w5 ⟨rfl, rfl⟩)
          go_roundw
          case rel => exact ⟨_, HT4.out⟩
          case measure => exact HLESS.out _ _ HT4.out (HLE.out _ (by omega))
        | back hw hv' hr' =>
          rename_i kk
          have hb : (s.dir (h / 2) != -1) = false := by simpa using hw
          rw [hb] at HWK
          have hm := Df.left_mark b hh hw
          have HTI : Hid (∀ V ov' sv', WalkAt w0 V p gp gh gr (.pointer q) ov' sv' n es.length (s.mark h) (Df.stk (L :: T)) → TInv w0 p gp gh gr (.pointer q) n (r + 1) es s' V (kk + k1 + 1)) := fun V ov' sv' hV => ⟨s.mark h, L :: T, ov', sv', .cons hr' h2, b.mark hh hw, hsT, by simp; omega, hV⟩
          have HWA : Hid (∀ V sv', WalkAt w0 V p gp gh gr (.pointer q) ov sv' n es.length s (Df.stk (L :: T)) → Calls Try.prog 61 #[.pointer (some ⟨p, 0, none⟩), .int .i64 (h : Int)] V (WPost w0 p gp gh gr (.pointer q) n es (s.mark h) (Df.stk (L :: T)))) := fun V sv' hV => walk_back h HADJ.out hV b hh hv'
          clear hw hv' hr' h2 b hsuf hsL hsT hlen hlen' haft hval hord hTl hL2 hb hm
          go_wp2_with (first | (go_at_call 56; refine HE.out.mono ?_; rintro e w2 ⟨rfl, rfl⟩) | (go_at_call 57; refine HPOP.out.mono ?_; rintro e w3 ⟨rfl, sv3, h3⟩; obtain ⟨HA, HP, HC⟩ := HPU.out w3 sv3 h3; have HA' := Nu.hid HA; have HP' := Nu.hid HP; have HC' := Nu.hid HC; have hbd : Below w3.heap.size w3 w3.drew := (Below.refl _ _).drew; clear HA HP HC h3))
          go_region_held3 (fun V => V.cell? ⟨p, 0, none⟩ = some (.pointer q))
            (first | exact HC'.out _ (by first | assumption | exact hbd) | assumption)
            ((first
              | (go_at_call 59; refine (HA'.out _ (by first | assumption | exact hbd)).mono ?_; rintro e V1 ⟨rfl, hv1⟩; have hb1 : Below w3.heap.size w3 V1 := Below.trans (by first | assumption | exact hbd) (hv1.mono (Below.size (by first | assumption | exact hbd))))
              | (go_at_call 58; refine (HP'.out _ (by first | assumption | exact hbd)).mono ?_; rintro e V2 ⟨rfl, hv2, hs2⟩)))
          obtain ⟨sv4, h4⟩ := hv2
          have HW4 := Nu.hid (HWK.out V2 sv4 h4)
          have HW5 := Nu.hid (HWA.out V2 sv4 h4)
          clear h4 hs2
          go_wp2_with (first | (go_at_call 60; refine HW4.out.mono ?_; rintro e w5 ⟨rfl, rfl⟩) | (go_at_call 61; refine HW5.out.mono ?_; rintro e w6 ⟨rfl, ov6, sv6, h6⟩; have HT6 := Nu.hid (HTI.out w6 ov6 sv6 h6); clear h6))
          go_roundw
          case rel => exact ⟨_, HT6.out⟩
          case measure => exact HLESS.out _ _ HT6.out (HLE.out _ (by omega))
        | tree hw hv' hr1 hr2 =>
          rename_i kj kk s2
          have hb : (s.dir (h / 2) != -1) = false := by simpa using hw
          rw [hb] at HWK
          have hm := Df.left_mark b hh hw
          have ht := (Cs.half_lt hval hh).2
          have hlg : (s.go es h).left = (s.mark h).left := rfl
          have HTI : Hid (∀ V ov' sv', WalkAt w0 V p gp gh gr (.pointer q) ov' sv' n es.length (s.go es h) (Df.stk (L :: T) ++ [Cs.firstI n es (Cs.to es h)]) → TInv w0 p gp gh gr (.pointer q) n (r + 1) es s' V (kj + (kk + k1 + 1) + 1)) := fun V ov' sv' hV => by
            rw [Df.first_hd ht, ← Df.stk_cons] at hV
            refine ⟨s.go es h, Cs.out es (Cs.to es h) (2 * es.length) :: L :: T, ov', sv', .cons hr1 (.cons hr2 h2), b.go hval hh hw, fun X hX => ?_, by simp; omega, hV⟩
            rcases List.mem_cons.1 hX with rfl | hX
            · exact Df.Suf.all ht
            · exact hsT X hX
          have HWA : Hid (∀ V sv', WalkAt w0 V p gp gh gr (.pointer q) ov sv' n es.length s (Df.stk (L :: T)) → Calls Try.prog 61 #[.pointer (some ⟨p, 0, none⟩), .int .i64 (h : Int)] V (WPost w0 p gp gh gr (.pointer q) n es (s.go es h) (Df.stk (L :: T) ++ [Cs.firstI n es (Cs.to es h)]))) := fun V sv' hV => walk_tree h HADJ.out hV b hh hv' (by omega) hL2
          clear hw hv' hr1 hr2 h2 b hsuf hsL hsT hlen hlen' haft hval hord hTl hL2 hb hm ht hlg
          go_wp2_with (first | (go_at_call 56; refine HE.out.mono ?_; rintro e w2 ⟨rfl, rfl⟩) | (go_at_call 57; refine HPOP.out.mono ?_; rintro e w3 ⟨rfl, sv3, h3⟩; obtain ⟨HA, HP, HC⟩ := HPU.out w3 sv3 h3; have HA' := Nu.hid HA; have HP' := Nu.hid HP; have HC' := Nu.hid HC; have hbd : Below w3.heap.size w3 w3.drew := (Below.refl _ _).drew; clear HA HP HC h3))
          go_region_held3 (fun V => V.cell? ⟨p, 0, none⟩ = some (.pointer q))
            (first | exact HC'.out _ (by first | assumption | exact hbd) | assumption)
            ((first
              | (go_at_call 59; refine (HA'.out _ (by first | assumption | exact hbd)).mono ?_; rintro e V1 ⟨rfl, hv1⟩; have hb1 : Below w3.heap.size w3 V1 := Below.trans (by first | assumption | exact hbd) (hv1.mono (Below.size (by first | assumption | exact hbd))))
              | (go_at_call 58; refine (HP'.out _ (by first | assumption | exact hbd)).mono ?_; rintro e V2 ⟨rfl, hv2, hs2⟩)))
          obtain ⟨sv4, h4⟩ := hv2
          have HW4 := Nu.hid (HWK.out V2 sv4 h4)
          have HW5 := Nu.hid (HWA.out V2 sv4 h4)
          clear h4 hs2
          go_wp2_with (first | (go_at_call 60; refine HW4.out.mono ?_; rintro e w5 ⟨rfl, rfl⟩) | (go_at_call 61; refine HW5.out.mono ?_; rintro e w6 ⟨rfl, ov6, sv6, h6⟩; have HT6 := Nu.hid (HTI.out w6 ov6 sv6 h6); clear h6))
          go_roundw
          case rel => exact ⟨_, HT6.out⟩
          case measure => exact HLESS.out _ _ HT6.out (show kj + (kk + k1 + 1) + 1 < kj + kk + 2 + k1 + 1 by omega)
end

end Go.Proofs.Ytponmjipbcmlhaa
