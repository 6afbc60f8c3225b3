/-
  Each vertex once: the places.
-/
import Derived.Test.YtponmjipbcmlhaaDfRp
import Derived.Test.YtponmjipbcmlhaaMgF
namespace Go.Proofs.Ytponmjipbcmlhaa
open Go.RowKit

namespace Df
/-- The places of the first k. -/
def PlaceTo (n : Nat) (s : St) (k : Nat) (P : List Int) : Prop := P.length = n ∧ (∀ a, a < k → at_ P (at_ s.ord a).toNat = (a : Int)) ∧ ∀ v : Nat, v < n → (∀ a, a < k → at_ s.ord a ≠ (v : Int)) → at_ P v = -1

theorem PlaceTo.step {n : Nat} {s : St} {k : Nat} {P : List Int} {v : Nat} (h : PlaceTo n s k P) (ho : Once n s k) (hv : at_ s.ord k = (v : Int)) (hvn : v < n) (hno : ∀ a, a < k → at_ s.ord a ≠ (v : Int)) : Once n s (k + 1) ∧ PlaceTo n s (k + 1) (P.set v (k : Int)) := by
  obtain ⟨h1, h2, h3⟩ := h
  have hset : ∀ u : Nat, at_ (P.set v (k : Int)) u = if u = v then (k : Int) else at_ P u := fun u => by
    unfold at_
    rw [List.getD_eq_getElem?_getD, List.getElem?_set]
    by_cases e : v = u
    · rw [if_pos e, if_pos (by omega), if_pos e.symm]; rfl
    · rw [if_neg e, if_neg (fun e2 => e e2.symm), ← List.getD_eq_getElem?_getD]
  refine ⟨fun i hi => ?_, by simp [h1], fun a ha => ?_, fun u hu hall => ?_⟩
  · by_cases e : i = k
    · subst e
      rw [hv]
      exact ⟨by omega, hno⟩
    · exact ho i (by omega)
  · rw [hset]
    by_cases e : a = k
    · subst e
      rw [hv, Int.toNat_natCast, if_pos rfl]
    · have h4 := hno a (by omega)
      have h5 := (ho a (by omega)).1
      rw [if_neg (by omega)]
      exact h2 a (by omega)
  · rw [hset, if_neg]
    · exact h3 u hu fun a ha => hall a (by omega)
    · intro e
      exact hall k (by omega) (by rw [hv, e])
end Df

/-- What eachOnce does. -/
def OncePost (w0 : World) (p : Nat) (av : Value) (f : For) (s : Df.St) (bv : Value) (n : Nat) (e : Ending) (w' : World) : Prop :=
  (∃ gp P, e = .returned (.bool true) ∧ Df.Once n s n ∧ ReadAt w0 w' p av f s (.slice (some ⟨gp, 0, none⟩) n n) bv ∧ IntsBlk w' gp P ∧ Df.IsPlace n s P ∧ gp ≠ p ∧ w0.heap.size ≤ gp) ∨ (e = .returned (.bool false) ∧ ¬ Df.Once n s n ∧ Below w0.heap.size w0 w')

section
variable {w0 w : World} {p : Nat} {av : Value} {f : For} {s : Df.St} {pv bv : Value} {n : Nat} {es : List (Int × Int)}

/-- A store into the places leaves the rest. -/
theorem ReadAt.set_far {g i : Nat} {x : Value} (h : ReadAt w0 w p av f s pv bv) (hg : g ≠ p) (hlo : w0.heap.size ≤ g) : ReadAt w0 (w.setCell ⟨g, i, none⟩ x) p av f s pv bv :=
  ⟨h.bel.setCell (p := ⟨g, i, none⟩) hlo _, (blk_same (fun e => hg e.symm) _).trans h.blk, h.lo⟩
theorem ReadAt.setP (h : ReadAt w0 w p av f s pv bv) (x : Value) : ReadAt w0 (w.setCell ⟨p, 5, none⟩ x) p av f s x bv := by
  refine ⟨h.bel.setCell (p := ⟨p, 5, none⟩) h.lo _, ?_, h.lo⟩
  rw [heap_setCell_same w p 5 _ _ _ h.blk]
  rfl
theorem ReadAt.setB (h : ReadAt w0 w p av f s pv bv) (x : Value) : ReadAt w0 (w.setCell ⟨p, 6, none⟩ x) p av f s pv x := by
  refine ⟨h.bel.setCell (p := ⟨p, 6, none⟩) h.lo _, ?_, h.lo⟩
  rw [heap_setCell_same w p 6 _ _ _ h.blk]
  rfl

set_option maxRecDepth 100000 in
set_option maxHeartbeats 8000000 in
theorem eachOnce_any (hadj : IsAdj w0 av n es) (hF : LstF w0 f s) (hL : Df.Lens n es s) (h : ReadAt w0 w p av f s pv bv) :
    Calls Try.prog 44 #[.pointer (some ⟨p, 0, none⟩)] w (OncePost w0 p av f s bv n) := by
  obtain ⟨hbn, hbm⟩ := hadj.bounds
  obtain ⟨l1, l2, l3, l4⟩ := hL
  obtain ⟨a1, a2, a3, a4, k1, k2, k3, k4⟩ := f
  have c0 := h.c0
  have HN := Nu.hid (aN_any av n es w (hadj.later h.bel))
  have HU := Nu.hid (unset_any n w (by omega))
  have HADJ := Nu.hid hadj
  have HF := Nu.hid hF
  have HR := Nu.hid h
  have hlp := h.lt
  have hlo := h.bel.size
  clear hadj hF h
  go_enter Try.func44, Try.ntmps44
  go_wp2_with (first | (go_at_call 39; refine HN.out.mono ?_; rintro e w1 ⟨rfl, hw1⟩; obtain rfl := hw1.symm) | (go_at_call 53; refine HU.out.mono ?_; rintro e w1 ⟨g, rfl, hg, hi, hb1⟩; refine Hid.out ?_))
  refine Nu.hid ?_
  have h1 := HR.out.later hb1
  have f5 := h1.free 5
  have c5 := h1.c5
  have hgp : g ≠ p := by omega
  have h2 := h1.setP (.slice (some ⟨g, 0, none⟩) n n)
  have hi2 := hi.set_far (i := 5) (b := p) hgp (.slice (some ⟨g, 0, none⟩) n n)
  obtain ⟨w2, hw2⟩ : ∃ w2, w2 = w1.setCell ⟨p, 5, none⟩ (.slice (some ⟨g, 0, none⟩) n n) := ⟨_, rfl⟩
  have c3 := h2.c3
  rw [← hw2] at h2 hi2
  have H2 := Nu.hid h2
  have HI2 := Nu.hid hi2
  have HW2 := Nu.hid hw2
  dsimp only at c3
  clear hi hb1 h1 h2 hi2 hw2 c0 HR
  go_wp2
  rw [← HW2.out]
  clear c5 f5 c3
  go_loopw [20] (fun c wr => ∃ (k : Nat) (P : List Int), k ≤ n ∧ c = .int .i64 k ∧ Df.Once n s k ∧ Df.PlaceTo n s k P ∧ IntsBlk wr g P ∧ ReadAt w0 wr p av ⟨a1, a2, a3, a4, k1, k2, k3, k4⟩ s (.slice (some ⟨g, 0, none⟩) n n) bv) (fun c _ => n - (intOf c).toNat)
  case atStart =>
    refine ⟨0, _, Nat.zero_le _, rfl, fun i hi => (by omega), ⟨by simp, fun a ha => (by omega), fun v hv _ => ?_⟩, HI2.out, H2.out⟩
    simp [Df.at_, List.getD_eq_getElem?_getD, hv]
  case round =>
    obtain ⟨k, P, hk, rfl, hO, hPl, hiP, hr⟩ := hrel
    have HO := Nu.hid hO
    have HPL := Nu.hid hPl
    have HIP := Nu.hid hiP
    have HRR := Nu.hid hr
    by_cases hlt : k < n
    · have hlti : (k : Int) < (n : Int) := by omega
      have hlti3 : (k : Int) < (s.ord.length : Int) := by omega
      have hk0 : (0 : Int) ≤ (k : Int) := by omega
      obtain ⟨b3, o3, e3, d3⟩ := lst_at (HF.out.later hr.bel).l3 (i := k) (by omega)
      dsimp only at e3
      subst e3
      obtain ⟨x, hx⟩ : ∃ x, s.ord.getD k (-1) = x := ⟨_, rfl⟩
      have hxa : Df.at_ s.ord k = x := hx
      rw [hx] at d3
      have hcall := rdVertex_any x HADJ.out hr
      by_cases hin : 0 ≤ x ∧ x < (n : Int)
      · rw [decide_eq_true hin] at hcall
        obtain ⟨v, rfl⟩ : ∃ v : Nat, x = (v : Int) := ⟨x.toNat, by omega⟩
        have hvn : v < n := by omega
        obtain ⟨v0, v1⟩ := hin
        have hPlen := hPl.1
        have c5 := hr.c5
        have d5 := hiP.cell (getD_of (-1) (by omega : v < P.length))
        have f5 := hiP.free v
        have HC := Nu.hid hcall
        by_cases hdup : ∃ a, a < k ∧ Df.at_ s.ord a = (v : Int)
        · obtain ⟨a, ha, hav⟩ := hdup
          have hpa : P.getD v (-1) = (a : Int) := by
            have := hPl.2.1 a ha
            rw [hav, Int.toNat_natCast] at this
            exact this
          rw [hpa] at d5
          have t1 : ((a : Int) != -1) = true := by simp only [bne_iff_ne, ne_eq]; omega
          have HNO : Hid (¬ Df.Once n s n) := fun h => (h k hlt).2 a ha (by rw [hav, hxa])
          have HBEL := Nu.hid hr.bel
          clear hO hPl hiP hr hx hxa hcall hpa hav
          go_wp2_with (go_at_call 30; refine HC.out.mono ?_; rintro e w3 ⟨rfl, hw3⟩; obtain rfl := hw3.symm)
          go_ret
          exact .inr ⟨rfl, HNO.out, HBEL.out⟩
        · have hno : ∀ a, a < k → Df.at_ s.ord a ≠ (v : Int) := fun a ha e => hdup ⟨a, ha, e⟩
          have hpa : P.getD v (-1) = -1 := hPl.2.2 v hvn hno
          rw [hpa] at d5
          have HST := Nu.hid (hPl.step hO hxa hvn hno)
          have HSET := Nu.hid (hiP.set v (k : Int))
          have HR3 := Nu.hid (hr.set_far (i := v) (x := .int .i64 (k : Int)) hgp (by omega : w0.heap.size ≤ g))
          clear hO hPl hiP hr hx hxa hcall hpa hno hdup
          go_wp2_with (go_at_call 30; refine HC.out.mono ?_; rintro e w3 ⟨rfl, hw3⟩; obtain rfl := hw3.symm)
          go_roundw
          case rel => exact ⟨k + 1, _, by omega, by go_num, HST.out.1, HST.out.2, HSET.out, HR3.out⟩
          case measure => simp [intOf]; omega
      · rw [decide_eq_false hin] at hcall
        have HC := Nu.hid hcall
        have HNO : Hid (¬ Df.Once n s n) := fun h => hin (by have := (h k hlt).1; rw [hxa] at this; exact this)
        have HBEL := Nu.hid hr.bel
        clear hO hPl hiP hr hx hxa hcall hin
        go_wp2_with (go_at_call 30; refine HC.out.mono ?_; rintro e w3 ⟨rfl, hw3⟩; obtain rfl := hw3.symm)
        go_ret
        exact .inr ⟨rfl, HNO.out, HBEL.out⟩
    · have hd : ¬ ((k : Int) < (s.ord.length : Int)) := by omega
      obtain rfl : k = n := by omega
      have HGP := Nu.hid hgp
      have HLG : Hid (w0.heap.size ≤ g) := show w0.heap.size ≤ g by omega
      clear hO hPl hiP hr
      go_wp2
      go_ret
      exact .inl ⟨g, P, rfl, HO.out, HRR.out, HIP.out, ⟨HPL.out.1, HPL.out.2.1⟩, HGP.out, HLG.out⟩
end

end Go.Proofs.Ytponmjipbcmlhaa
