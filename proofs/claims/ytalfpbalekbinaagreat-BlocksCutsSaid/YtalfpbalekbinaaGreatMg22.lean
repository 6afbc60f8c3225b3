import Derived.Test.YtalfpbalekbinaaGreatMg21
import Derived.Test.YtalfpbalekbinaaGreatMg00
import Derived.Test.YtalfpbalekbinaaGreatMg10
import Derived.Test.YtalfpbalekbinaaGreatMg11
import Derived.Deep.RegionHeld3
import Derived.Lib.SliceRun
/-
  To walk a half-edge.
-/
namespace Go.Proofs.YtalfpbalekbinaaGreat
open Go.RowKit

section
variable {w0 w : World} {p gp gh gr : Nat} {av ov sv : Value} {n r : Nat} {es : List (Int × Int)} {s : Df.St} {K : List Int}

set_option maxRecDepth 100000 in
set_option maxHeartbeats 8000000 in
theorem walk_back (h : Nat) (hadj : IsAdj w0 av n es) (hW : WalkAt w0 w p gp gh gr av ov sv n es.length s K) (b : Df.Bd n es r s) (hh : h < 2 * es.length) (hv : s.height (Cs.to es h) ≠ -1) :
    Calls Tryz.prog 74 #[.pointer (some ⟨p, 0, none⟩), .int .i64 (h : Int)] w (WPost w0 p gp gh gr av n es (s.mark h) K) := by
  have hval := hadj.val hh
  obtain ⟨hbn, hbm⟩ := hadj.bounds
  have ht := (Cs.half_lt hval hh).2
  obtain ⟨jh, hjh⟩ : ∃ jh, h / 2 = jh := ⟨_, rfl⟩
  have c4 := hW.c4
  have d4 := hW.ir.cell (getD_of (-1) (by rw [b.lo]; omega : jh < s.ori.length))
  have f4 := hW.ir.free jh
  have h1 := hW.setOri jh (h : Int)
  have hm : s.mark h = { s with ori := s.ori.set jh (h : Int) } := by unfold Df.St.mark; rw [hjh]
  rw [← hm] at h1
  have htd : (h : Int).tdiv 2 = (jh : Int) := by rw [Int.tdiv_eq_ediv_of_nonneg (by omega)]; omega
  have htd2 : (h : Int) / 2 = (jh : Int) := by omega
  have e0 : (0 : Int) ≤ (jh : Int) := by omega
  have e1 : (jh : Int) < (es.length : Int) := by omega
  have e2 : (0 : Int) ≤ (h : Int) := by omega
  obtain ⟨w1, hw1⟩ : ∃ w1, w1 = w.setCell ⟨gr, jh, none⟩ (.int .i64 (h : Int)) := ⟨_, rfl⟩
  rw [← hw1] at h1
  have HT := to_any av n es h w1 (hadj.later h1.bel)
  rw [Cs.toI_in hh] at HT
  have HR := reached_any (Cs.to es h) h1 b.lh ht
  have hr : ((s.mark h).height (Cs.to es h) != -1) = true := by
    show (s.height (Cs.to es h) != -1) = true
    simpa using hv
  rw [hr] at HR
  have hc0 := h1.c0
  have HW1 := Nu.hid hw1
  have H1 := Nu.hid h1
  have HT' := Nu.hid HT
  have HR' := Nu.hid HR
  clear hval hv hm h1 hw1 HT HR hr hW hadj b
  rw [HW1.out] at hc0
  go_enter Tryz.func74, Tryz.ntmps74
  go_wp2_with (first | (go_at_call 46; rw [← HW1.out]; refine HT'.out.mono ?_; rintro e V ⟨rfl, rfl⟩) | (go_at_call 51; refine HR'.out.mono ?_; rintro e V ⟨rfl, rfl⟩))
  go_end0
  exact ⟨rfl, _, _, H1.out⟩

set_option maxRecDepth 100000 in
set_option maxHeartbeats 8000000 in
theorem walk_tree (h : Nat) (hadj : IsAdj w0 av n es) (hW : WalkAt w0 w p gp gh gr av ov sv n es.length s K) (b : Df.Bd n es r s) (hh : h < 2 * es.length) (hv : s.height (Cs.to es h) = -1) (ho : s.ord.length ≤ 17592186044000) (hK : K.length ≤ 17592186044000) :
    Calls Tryz.prog 74 #[.pointer (some ⟨p, 0, none⟩), .int .i64 (h : Int)] w (WPost w0 p gp gh gr av n es (s.go es h) (K ++ [Cs.firstI n es (Cs.to es h)])) := by
  have hval := hadj.val hh
  obtain ⟨hbn, hbm⟩ := hadj.bounds
  obtain ⟨hf, ht⟩ := Cs.half_lt hval hh
  have hne := Cs.fr_ne_to hval hh
  obtain ⟨jh, hjh⟩ : ∃ jh, h / 2 = jh := ⟨_, rfl⟩
  have c4 := hW.c4
  have d4 := hW.ir.cell (getD_of (-1) (by rw [b.lo]; omega : jh < s.ori.length))
  have f4 := hW.ir.free jh
  have h1 := hW.setOri jh (h : Int)
  have hm : s.mark h = { s with ori := s.ori.set jh (h : Int) } := by unfold Df.St.mark; rw [hjh]
  rw [← hm] at h1
  have htd : (h : Int).tdiv 2 = (jh : Int) := by rw [Int.tdiv_eq_ediv_of_nonneg (by omega)]; omega
  have htd2 : (h : Int) / 2 = (jh : Int) := by omega
  have e0 : (0 : Int) ≤ (jh : Int) := by omega
  have e1 : (jh : Int) < (es.length : Int) := by omega
  have e2 : (0 : Int) ≤ (h : Int) := by omega
  obtain ⟨w1, hw1⟩ : ∃ w1, w1 = w.setCell ⟨gr, jh, none⟩ (.int .i64 (h : Int)) := ⟨_, rfl⟩
  rw [← hw1] at h1
  have HT := to_any av n es h w1 (hadj.later h1.bel)
  rw [Cs.toI_in hh] at HT
  have HR := reached_any (Cs.to es h) h1 b.lh ht
  have hr : ((s.mark h).height (Cs.to es h) != -1) = false := by
    show (s.height (Cs.to es h) != -1) = false
    simpa using hv
  rw [hr] at HR
  have hc0 := h1.c0
  have hhb := b.hh _ hf
  have hbh : b.lh = b.lh := rfl
  have HW1 := Nu.hid hw1
  have H1 := Nu.hid h1
  have HT' := Nu.hid HT
  have HR' := Nu.hid HR
  have hav : ∃ q, av = .pointer q := by
    rcases hadj with ⟨h, _⟩ | ⟨_, p, h, _⟩
    · exact ⟨_, h⟩
    · exact ⟨_, h⟩
  obtain ⟨q, rfl⟩ := hav
  obtain ⟨x, hx⟩ : ∃ x, s.height (Cs.fr es h) = x := ⟨_, rfl⟩
  have hgo : s.go es h = (s.mark h).reach (Cs.to es h) h (x + 1) := by unfold Df.St.go; rw [hx]
  rw [hgo]
  rw [hx] at hhb
  have HF : Hid (∀ V, Below w1.heap.size w1 V → Calls Tryz.prog 45 #[.pointer q, .int .i64 (h : Int)] V fun e V' => e = .returned (.int .i64 (Cs.fr es h : Int)) ∧ V' = V) := fun V hV => by
    have := from_any _ n es h V (hadj.later (H1.out.bel.trans (hV.mono H1.out.bel.size)))
    rw [Cs.frI_in hh] at this
    exact this
  have hS : ∀ V (s' : Df.St) ov sv K', WalkAt w0 V p gp gh gr (.pointer q) ov sv n es.length s' K' → s'.hei.length = n → s'.height (Cs.fr es h) = x → (V.cell? ⟨p, 2, none⟩ = some (.slice (some ⟨gh, 0, none⟩) n n) ∧ V.cell? ⟨p, 0, none⟩ = some (.pointer q) ∧ V.cell? ⟨gh, Cs.fr es h, none⟩ = some (.int .i64 x)) := fun V s' ov sv K' hw hl hx => by
    refine ⟨hw.c2, hw.c0, ?_⟩
    have := hw.ih.cell (getD_of (-1) (by omega : Cs.fr es h < s'.hei.length))
    rw [this]
    exact congrArg (fun z => some (Value.int .i64 z)) hx
  have HP : Hid (∀ V, Below w1.heap.size w1 V → Calls Tryz.prog 68 #[.pointer (some ⟨p, 0, none⟩), .int .i64 (Cs.to es h : Int), .int .i64 (h : Int), .int .i64 (x + 1)] V fun e V' => e = .returned (.tuple #[]) ∧ (∃ ov sv, WalkAt w0 V' p gp gh gr (.pointer q) ov sv n es.length ((s.mark h).reach (Cs.to es h) h (x + 1)) (K ++ [Cs.firstI n es (Cs.to es h)])) ∧ (V'.cell? ⟨p, 2, none⟩ = some (.slice (some ⟨gh, 0, none⟩) n n) ∧ V'.cell? ⟨p, 0, none⟩ = some (.pointer q) ∧ V'.cell? ⟨gh, Cs.fr es h, none⟩ = some (.int .i64 x))) := fun V hV => by
    refine (reach_any (Cs.to es h) h (x + 1) hadj (H1.out.later hV) b.lp b.lh ht ho hK).mono ?_
    rintro e V' ⟨he, ov', sv', hw⟩
    refine ⟨he, ⟨ov', sv', hw⟩, hS V' _ ov' sv' _ hw ?_ ?_⟩
    · show (s.hei.set _ _).length = n
      rw [List.length_set]
      exact b.lh
    · show (s.hei.set _ _).getD _ _ = x
      rw [List.getD_eq_getElem?_getD, List.getElem?_set, if_neg (fun e => hne e.symm), ← List.getD_eq_getElem?_getD]
      exact hx
  have HS : Hid (∀ V, Below w1.heap.size w1 V → (V.cell? ⟨p, 2, none⟩ = some (.slice (some ⟨gh, 0, none⟩) n n) ∧ V.cell? ⟨p, 0, none⟩ = some (.pointer q) ∧ V.cell? ⟨gh, Cs.fr es h, none⟩ = some (.int .i64 x))) := fun V hV => hS V _ _ _ _ (H1.out.later hV) b.lh hx
  obtain ⟨f, hff⟩ : ∃ f, Cs.fr es h = f := ⟨_, rfl⟩
  obtain ⟨t, htt⟩ : ∃ t, Cs.to es h = t := ⟨_, rfl⟩
  rw [hff] at HF HS HP hf
  rw [htt] at HT' HR' HP ⊢
  have i0 : (0 : Int) ≤ (f : Int) := by omega
  have i1 : (f : Int) < (n : Int) := by omega
  have hbd : Below w1.heap.size w1 w1.drew := (Below.refl _ _).drew
  have hxw : IntKind.i64.wrap (x + 1) = x + 1 := by rw [IntKind.wrap_i64]; omega
  clear hval hv hm h1 hw1 HT HR hr hW hadj b hgo hS hx hne hff htt hbh
  rw [HW1.out] at hc0
  go_enter Tryz.func74, Tryz.ntmps74
  go_wp2_with (first | (go_at_call 46; rw [← HW1.out]; refine HT'.out.mono ?_; rintro e V ⟨rfl, rfl⟩) | (go_at_call 51; refine HR'.out.mono ?_; rintro e V ⟨rfl, rfl⟩))
  go_region_held3 (fun V => V.cell? ⟨p, 2, none⟩ = some (.slice (some ⟨gh, 0, none⟩) n n) ∧ V.cell? ⟨p, 0, none⟩ = some (.pointer q) ∧ V.cell? ⟨gh, f, none⟩ = some (.int .i64 x))
    (first | exact HS.out _ (by first | assumption | exact hbd) | assumption)
    ((first
      | (go_at_call 45; refine (HF.out _ (by first | assumption | exact hbd)).mono ?_; rintro e V1 ⟨rfl, rfl⟩)
      | (go_at_call 68; refine (HP.out _ (by first | assumption | exact hbd)).mono ?_; rintro e V2 ⟨rfl, hv2, hs2⟩)))
  all_goals
    go_wp2
    go_end0
    exact ⟨rfl, hv2⟩
end

end Go.Proofs.YtalfpbalekbinaaGreat

/-
  All that is reached from a root.
-/
namespace Go.Proofs.YtalfpbalekbinaaGreat
open Go.RowKit

namespace Df

/-- What stands on the stack for the half-edges that are left of a vertex. -/
def hd : List Nat → Int
  | [] => -1
  | h :: _ => (h : Int)

/-- L is what is left of a vertex. -/
def Suf (n : Nat) (es : List (Int × Int)) (L : List Nat) : Prop := ∃ v i, v < n ∧ L = (Cs.out es v (2 * es.length)).drop i

theorem hd_getD (L : List Nat) (i : Nat) : (L.map fun i : Nat => (i : Int)).getD i (-1) = hd (L.drop i) := by
  rw [List.getD_eq_getElem?_getD, List.getElem?_map]
  cases h : L[i]? with
  | none =>
    rw [List.drop_of_length_le (List.getElem?_eq_none_iff.1 h)]
    rfl
  | some x =>
    obtain ⟨hi, hx⟩ := List.getElem?_eq_some_iff.1 h
    rw [List.drop_eq_getElem_cons hi, hx]
    rfl

theorem first_hd {n : Nat} {es : List (Int × Int)} {v : Nat} (hv : v < n) : Cs.firstI n es v = hd (Cs.out es v (2 * es.length)) := by
  unfold Cs.firstI Cs.outZ
  rw [Cs.outI_in hv, hd_getD]
  rfl

theorem Suf.all {n : Nat} {es : List (Int × Int)} {v : Nat} (hv : v < n) : Suf n es (Cs.out es v (2 * es.length)) := ⟨v, 0, hv, rfl⟩

theorem Suf.step {n : Nat} {es : List (Int × Int)} {h : Nat} {L : List Nat} (hs : Suf n es (h :: L)) : h < 2 * es.length ∧ Suf n es L ∧ Cs.afterI n es h = hd L := by
  obtain ⟨v, i, hv, e⟩ := hs
  have hi : (Cs.out es v (2 * es.length))[i]? = some h := by
    have := congrArg (fun l : List Nat => l[0]?) e
    simpa using this.symm
  have hL : L = (Cs.out es v (2 * es.length)).drop (i + 1) := by
    have := congrArg List.tail e
    simpa using this
  obtain ⟨h1, h2, h3⟩ := Cs.out_of hi
  refine ⟨h1, ⟨v, i + 1, hv, hL⟩, ?_⟩
  unfold Cs.afterI Cs.outZ
  rw [if_pos (by omega), Int.toNat_natCast, h2, h3, Cs.outI_in hv, hd_getD, ← hL]

theorem Suf.half {n : Nat} {es : List (Int × Int)} {L : List Nat} (hs : Suf n es L) : ∀ x ∈ L, x < 2 * es.length := by
  obtain ⟨v, i, hv, rfl⟩ := hs
  exact fun x hx => out_half x (List.mem_of_mem_drop hx)

/-- All that is on the stack is walked, the top first. -/
inductive RS (es : List (Int × Int)) : Nat → St → List (List Nat) → St → Prop
  | nil (s : St) : RS es 0 s [] s
  | cons {j k : Nat} {s s1 s' : St} {L : List Nat} {T : List (List Nat)} (h1 : R es j s L s1) (h2 : RS es k s1 T s') : RS es (j + k + 1) s (L :: T) s'

/-- The stack, the bottom first. -/
def stk (T : List (List Nat)) : List Int := (T.map hd).reverse
theorem stk_cons (L : List Nat) (T : List (List Nat)) : stk (L :: T) = stk T ++ [hd L] := by simp [stk]
theorem stk_len (T : List (List Nat)) : (stk T).length = T.length := by simp [stk]

end Df

/-- The walk is under way, k is still to be done, and it comes to s'. -/
def TInv (w0 : World) (p gp gh gr : Nat) (av : Value) (n r : Nat) (es : List (Int × Int)) (s' : Df.St) (w : World) (k : Nat) : Prop :=
  ∃ s T ov sv, Df.RS es k s T s' ∧ Df.Bd n es r s ∧ (∀ L ∈ T, Df.Suf n es L) ∧ T.length + s.left ≤ es.length + 1 ∧ WalkAt w0 w p gp gh gr av ov sv n es.length s (Df.stk T)

section
variable {w0 w : World} {p gp gh gr : Nat} {av ov sv : Value} {n r : Nat} {es : List (Int × Int)} {s s' : Df.St}

set_option maxRecDepth 100000 in
set_option maxHeartbeats 16000000 in
theorem walkTree_any (v k : Nat) (hadj : IsAdj w0 av n es) (hW : WalkAt w0 w p gp gh gr av ov sv n es.length s []) (b : Df.Bd n es r s) (hv : v < n) (hr : r ≤ 1048576) (hR : Df.R es k (s.reach v (-1) 0) (Cs.out es v (2 * es.length)) s') :
    Calls Tryz.prog 52 #[.pointer (some ⟨p, 0, none⟩), .int .i64 (v : Int)] w (WPost w0 p gp gh gr av n es s' []) := by
  obtain ⟨hbn, hbm⟩ := hadj.bounds
  have hord := b.hr
  have hRE := reach_any v (-1) 0 hadj hW b.lp b.lh hv (by omega) (by simp)
  rw [Df.first_hd hv, List.nil_append] at hRE
  have hinv : ∀ V ov' sv', WalkAt w0 V p gp gh gr av ov' sv' n es.length (s.reach v (-1) 0) [Df.hd (Cs.out es v (2 * es.length))] → TInv w0 p gp gh gr av n (r + 1) es s' V (k + 0 + 1) := fun V ov' sv' h =>
    ⟨s.reach v (-1) 0, [Cs.out es v (2 * es.length)], ov', sv', .cons hR (.nil s'), b.root hv, fun L hL => by rw [List.mem_singleton] at hL; subst hL; exact Df.Suf.all hv, by have := b.few; show 1 + s.left ≤ _; omega, h⟩
  have HRE := Nu.hid hRE
  have HINV := Nu.hid hinv
  have HADJ := Nu.hid hadj
  have hav : ∃ q, av = .pointer q := by
    rcases hadj with ⟨h, _⟩ | ⟨_, p, h, _⟩
    · exact ⟨_, h⟩
    · exact ⟨_, h⟩
  obtain ⟨q, rfl⟩ := hav
  clear hRE hinv hR hW hord hadj b
  go_enter Tryz.func52, Tryz.ntmps52
  go_wp2_with (go_at_call 68; refine HRE.out.mono ?_; rintro e w1 ⟨rfl, ov1, sv1, h1⟩; have HT1 := Nu.hid (HINV.out w1 ov1 sv1 h1); clear h1)
  clear HRE HINV
  go_loopw [4] (fun _ wr => ∃ k, TInv w0 p gp gh gr (.pointer q) n (r + 1) es s' wr k) (fun _ wr => leastOf (TInv w0 p gp gh gr (.pointer q) n (r + 1) es s' wr))
  case atStart => exact ⟨_, HT1.out⟩
  case round =>
    obtain ⟨k0, hk0⟩ := hrel
    obtain ⟨hI, -⟩ := leastOf_spec hk0
    obtain ⟨k, hk⟩ : ∃ k, leastOf (TInv w0 p gp gh gr (.pointer q) n (r + 1) es s' wr) = k := ⟨_, rfl⟩
    rw [hk] at hI
    have HK := Nu.hid hk
    have HLESS : Hid (∀ V k', TInv w0 p gp gh gr (.pointer q) n (r + 1) es s' V k' → k' < k → leastOf (TInv w0 p gp gh gr (.pointer q) n (r + 1) es s' V) < leastOf (TInv w0 p gp gh gr (.pointer q) n (r + 1) es s' wr)) := fun V k' h1 h2 => by
      rw [hk]
      have := (leastOf_spec h1).2
      omega
    clear hk hk0 HK
    obtain ⟨s, T, ov, sv, hRS, b, hsuf, hlen, hw⟩ := hI
    cases T with
    | nil =>
      cases hRS
      have he := empty_any p 5 _ _ _ _ _ wr hw.stk
      have hd0 : decide ((Df.stk []).length = 0) = true := rfl
      rw [hd0] at he
      have HE := Nu.hid he
      have HW := Nu.hid hw
      clear he hw hd0 hsuf hlen b
      go_wp2_with (go_at_call 69; refine HE.out.mono ?_; rintro e w2 ⟨rfl, rfl⟩)
      go_end0
      exact ⟨rfl, ov, sv, HW.out⟩
    | cons L T =>
      cases hRS with
      | cons h1 h2 =>
      rename_i j k1 s1
      rw [Df.stk_cons] at hw
      have hTl : (Df.stk T).length ≤ 17592186044000 := by rw [Df.stk_len]; simp at hlen; omega
      have he := empty_any p 5 _ _ _ _ _ wr hw.stk
      have hd0 : decide ((Df.stk T ++ [Df.hd L]).length = 0) = false := by simp
      rw [hd0] at he
      have HE := Nu.hid he
      have hpop := (pop_any p 5 _ _ _ _ (Df.stk T) (Df.hd L) wr hw.stk hTl).mono (R' := fun e w' => e = .returned (.int .i64 (Df.hd L)) ∧ ∃ sv', WalkAt w0 w' p gp gh gr (.pointer q) ov sv' n es.length s (Df.stk T)) (fun e w' hp => ⟨hp.1, hw.popped hp⟩)
      have HPOP := Nu.hid hpop
      clear he hpop hw hd0
      cases L with
      | nil =>
        cases h1
        have hTI : ∀ V sv', WalkAt w0 V p gp gh gr (.pointer q) ov sv' n es.length s (Df.stk T) → TInv w0 p gp gh gr (.pointer q) n (r + 1) es s' V k1 := fun V sv' h => ⟨s, T, ov, sv', h2, b, fun L hL => hsuf L (List.mem_cons_of_mem _ hL), by simp at hlen; omega, h⟩
        have HTI := Nu.hid hTI
        have HLT : Hid (k1 < 0 + k1 + 1) := show k1 < 0 + k1 + 1 by omega
        unfold Df.hd at HPOP
        clear hTI h2 b hsuf hlen hTl
        go_wp2_with (first | (go_at_call 69; refine HE.out.mono ?_; rintro e w2 ⟨rfl, rfl⟩) | (go_at_call 70; refine HPOP.out.mono ?_; rintro e w3 ⟨rfl, sv3, h3⟩; have HT3 := Nu.hid (HTI.out w3 sv3 h3); clear h3))
        go_roundw
        case rel => exact ⟨_, HT3.out⟩
        case measure => exact HLESS.out _ _ HT3.out HLT.out
      | cons h L =>
        obtain ⟨hh, hsL, haft⟩ := (hsuf _ List.mem_cons_self).step
        have hval := HADJ.out.val hh
        have hsT : ∀ X ∈ L :: T, Df.Suf n es X := fun X hX => by
          rcases List.mem_cons.1 hX with rfl | hX
          · exact hsL
          · exact hsuf X (List.mem_cons_of_mem _ hX)
        have hlen' : T.length + 1 + s.left ≤ es.length + 1 := by simpa using hlen
        unfold Df.hd at HPOP
        have hne : (((h : Nat) : Int) == -1) = false := by simp only [beq_eq_false_iff_ne, ne_eq]; omega
        have HPU : Hid (∀ V sv', WalkAt w0 V p gp gh gr (.pointer q) ov sv' n es.length s (Df.stk T) → (∀ U, Below V.heap.size V U → Calls Tryz.prog 72 #[.pointer q, .int .i64 (h : Int)] U fun e U' => e = .returned (.int .i64 (Df.hd L)) ∧ Below U.heap.size U U') ∧ (∀ U, Below V.heap.size V U → Calls Tryz.prog 71 #[.pointer (some ⟨p, 5, none⟩), .int .i64 (Df.hd L)] U fun e U' => e = .returned (.tuple #[]) ∧ (∃ sv, WalkAt w0 U' p gp gh gr (.pointer q) ov sv n es.length s (Df.stk (L :: T))) ∧ U'.cell? ⟨p, 0, none⟩ = some (.pointer q)) ∧ ∀ U, Below V.heap.size V U → U.cell? ⟨p, 0, none⟩ = some (.pointer q)) := fun V sv' hV => by
          refine ⟨fun U hU => ?_, fun U hU => ?_, fun U hU => (hV.later hU).c0⟩
          · have := after_any _ n es h U (HADJ.out.later (hV.bel.trans (hU.mono hV.bel.size)))
            rw [haft] at this
            exact this.mono (by rintro e U' ⟨rfl, k, rfl⟩; exact ⟨rfl, below_drewN (Below.refl _ _) k⟩)
          · have hU2 := hV.later hU
            refine (push_any p 5 _ _ _ _ (Df.stk T) (Df.hd L) U hU2.stk hU2.bel.size hTl).mono ?_
            intro e U' hp
            obtain ⟨sv2, h2⟩ := hU2.pushed hp
            rw [← Df.stk_cons] at h2
            exact ⟨hp.1, ⟨sv2, h2⟩, h2.c0⟩
        have hord := b.hr
        have hL2 : (Df.stk (L :: T)).length ≤ 17592186044000 := by rw [Df.stk_len]; simp; omega
        have HWK : Hid (∀ V sv', WalkAt w0 V p gp gh gr (.pointer q) ov sv' n es.length s (Df.stk (L :: T)) → Calls Tryz.prog 73 #[.pointer (some ⟨p, 0, none⟩), .int .i64 (h : Int)] V fun e w' => e = .returned (.bool (s.dir (h / 2) != -1)) ∧ w' = V) := fun V sv' hV => walked_any h hV b.lo hh hbm
        have HLE : Hid (∀ a : Nat, a < j → a + k1 + 1 < j + k1 + 1) := fun a ha => by omega
        cases h1 with
        | old hw hr' =>
          rename_i kk
          have hb : (s.dir (h / 2) != -1) = true := by simpa using hw
          rw [hb] at HWK
          have HTI : Hid (∀ V sv', WalkAt w0 V p gp gh gr (.pointer q) ov sv' n es.length s (Df.stk (L :: T)) → TInv w0 p gp gh gr (.pointer q) n (r + 1) es s' V (kk + k1 + 1)) := fun V sv' hV => ⟨s, L :: T, ov, sv', .cons hr' h2, b, hsT, hlen', hV⟩
          clear hw hr' h2 b hsuf hsL hsT hlen hlen' haft hval hord hTl hL2 hb
          go_wp2_with (first | (go_at_call 69; refine HE.out.mono ?_; rintro e w2 ⟨rfl, rfl⟩) | (go_at_call 70; refine HPOP.out.mono ?_; rintro e w3 ⟨rfl, sv3, h3⟩; obtain ⟨HA, HP, HC⟩ := HPU.out w3 sv3 h3; have HA' := Nu.hid HA; have HP' := Nu.hid HP; have HC' := Nu.hid HC; have hbd : Below w3.heap.size w3 w3.drew := (Below.refl _ _).drew; clear HA HP HC h3))
          go_region_held3 (fun V => V.cell? ⟨p, 0, none⟩ = some (.pointer q))
            (first | exact HC'.out _ (by first | assumption | exact hbd) | assumption)
            ((first
              | (go_at_call 72; refine (HA'.out _ (by first | assumption | exact hbd)).mono ?_; rintro e V1 ⟨rfl, hv1⟩; have hb1 : Below w3.heap.size w3 V1 := Below.trans (by first | assumption | exact hbd) (hv1.mono (Below.size (by first | assumption | exact hbd))))
              | (go_at_call 71; refine (HP'.out _ (by first | assumption | exact hbd)).mono ?_; rintro e V2 ⟨rfl, hv2, hs2⟩)))
          obtain ⟨sv4, h4⟩ := hv2
          have HW4 := Nu.hid (HWK.out V2 sv4 h4)
          have HT4 := Nu.hid (HTI.out V2 sv4 h4)
          clear h4 hs2
          go_wp2_with (go_at_call 73; refine HW4.out.mono ?_; rintro e w5 ⟨rfl, rfl⟩)
          go_roundw
          case rel => exact ⟨_, HT4.out⟩
          case measure => exact HLESS.out _ _ HT4.out (HLE.out _ (by omega))
        | back hw hv' hr' =>
          rename_i kk
          have hb : (s.dir (h / 2) != -1) = false := by simpa using hw
          rw [hb] at HWK
          have hm := Df.left_mark b hh hw
          have HTI : Hid (∀ V ov' sv', WalkAt w0 V p gp gh gr (.pointer q) ov' sv' n es.length (s.mark h) (Df.stk (L :: T)) → TInv w0 p gp gh gr (.pointer q) n (r + 1) es s' V (kk + k1 + 1)) := fun V ov' sv' hV => ⟨s.mark h, L :: T, ov', sv', .cons hr' h2, b.mark hh hw, hsT, by simp; omega, hV⟩
          have HWA : Hid (∀ V sv', WalkAt w0 V p gp gh gr (.pointer q) ov sv' n es.length s (Df.stk (L :: T)) → Calls Tryz.prog 74 #[.pointer (some ⟨p, 0, none⟩), .int .i64 (h : Int)] V (WPost w0 p gp gh gr (.pointer q) n es (s.mark h) (Df.stk (L :: T)))) := fun V sv' hV => walk_back h HADJ.out hV b hh hv'
          clear hw hv' hr' h2 b hsuf hsL hsT hlen hlen' haft hval hord hTl hL2 hb hm
          go_wp2_with (first | (go_at_call 69; refine HE.out.mono ?_; rintro e w2 ⟨rfl, rfl⟩) | (go_at_call 70; refine HPOP.out.mono ?_; rintro e w3 ⟨rfl, sv3, h3⟩; obtain ⟨HA, HP, HC⟩ := HPU.out w3 sv3 h3; have HA' := Nu.hid HA; have HP' := Nu.hid HP; have HC' := Nu.hid HC; have hbd : Below w3.heap.size w3 w3.drew := (Below.refl _ _).drew; clear HA HP HC h3))
          go_region_held3 (fun V => V.cell? ⟨p, 0, none⟩ = some (.pointer q))
            (first | exact HC'.out _ (by first | assumption | exact hbd) | assumption)
            ((first
              | (go_at_call 72; refine (HA'.out _ (by first | assumption | exact hbd)).mono ?_; rintro e V1 ⟨rfl, hv1⟩; have hb1 : Below w3.heap.size w3 V1 := Below.trans (by first | assumption | exact hbd) (hv1.mono (Below.size (by first | assumption | exact hbd))))
              | (go_at_call 71; refine (HP'.out _ (by first | assumption | exact hbd)).mono ?_; rintro e V2 ⟨rfl, hv2, hs2⟩)))
          obtain ⟨sv4, h4⟩ := hv2
          have HW4 := Nu.hid (HWK.out V2 sv4 h4)
          have HW5 := Nu.hid (HWA.out V2 sv4 h4)
          clear h4 hs2
          go_wp2_with (first | (go_at_call 73; refine HW4.out.mono ?_; rintro e w5 ⟨rfl, rfl⟩) | (go_at_call 74; refine HW5.out.mono ?_; rintro e w6 ⟨rfl, ov6, sv6, h6⟩; have HT6 := Nu.hid (HTI.out w6 ov6 sv6 h6); clear h6))
          go_roundw
          case rel => exact ⟨_, HT6.out⟩
          case measure => exact HLESS.out _ _ HT6.out (HLE.out _ (by omega))
        | tree hw hv' hr1 hr2 =>
          rename_i kj kk s2
          have hb : (s.dir (h / 2) != -1) = false := by simpa using hw
          rw [hb] at HWK
          have hm := Df.left_mark b hh hw
          have ht := (Cs.half_lt hval hh).2
          have hlg : (s.go es h).left = (s.mark h).left := rfl
          have HTI : Hid (∀ V ov' sv', WalkAt w0 V p gp gh gr (.pointer q) ov' sv' n es.length (s.go es h) (Df.stk (L :: T) ++ [Cs.firstI n es (Cs.to es h)]) → TInv w0 p gp gh gr (.pointer q) n (r + 1) es s' V (kj + (kk + k1 + 1) + 1)) := fun V ov' sv' hV => by
            rw [Df.first_hd ht, ← Df.stk_cons] at hV
            refine ⟨s.go es h, Cs.out es (Cs.to es h) (2 * es.length) :: L :: T, ov', sv', .cons hr1 (.cons hr2 h2), b.go hval hh hw, fun X hX => ?_, by simp; omega, hV⟩
            rcases List.mem_cons.1 hX with rfl | hX
            · exact Df.Suf.all ht
            · exact hsT X hX
          have HWA : Hid (∀ V sv', WalkAt w0 V p gp gh gr (.pointer q) ov sv' n es.length s (Df.stk (L :: T)) → Calls Tryz.prog 74 #[.pointer (some ⟨p, 0, none⟩), .int .i64 (h : Int)] V (WPost w0 p gp gh gr (.pointer q) n es (s.go es h) (Df.stk (L :: T) ++ [Cs.firstI n es (Cs.to es h)]))) := fun V sv' hV => walk_tree h HADJ.out hV b hh hv' (by omega) hL2
          clear hw hv' hr1 hr2 h2 b hsuf hsL hsT hlen hlen' haft hval hord hTl hL2 hb hm ht hlg
          go_wp2_with (first | (go_at_call 69; refine HE.out.mono ?_; rintro e w2 ⟨rfl, rfl⟩) | (go_at_call 70; refine HPOP.out.mono ?_; rintro e w3 ⟨rfl, sv3, h3⟩; obtain ⟨HA, HP, HC⟩ := HPU.out w3 sv3 h3; have HA' := Nu.hid HA; have HP' := Nu.hid HP; have HC' := Nu.hid HC; have hbd : Below w3.heap.size w3 w3.drew := (Below.refl _ _).drew; clear HA HP HC h3))
          go_region_held3 (fun V => V.cell? ⟨p, 0, none⟩ = some (.pointer q))
            (first | exact HC'.out _ (by first | assumption | exact hbd) | assumption)
            ((first
              | (go_at_call 72; refine (HA'.out _ (by first | assumption | exact hbd)).mono ?_; rintro e V1 ⟨rfl, hv1⟩; have hb1 : Below w3.heap.size w3 V1 := Below.trans (by first | assumption | exact hbd) (hv1.mono (Below.size (by first | assumption | exact hbd))))
              | (go_at_call 71; refine (HP'.out _ (by first | assumption | exact hbd)).mono ?_; rintro e V2 ⟨rfl, hv2, hs2⟩)))
          obtain ⟨sv4, h4⟩ := hv2
          have HW4 := Nu.hid (HWK.out V2 sv4 h4)
          have HW5 := Nu.hid (HWA.out V2 sv4 h4)
          clear h4 hs2
          go_wp2_with (first | (go_at_call 73; refine HW4.out.mono ?_; rintro e w5 ⟨rfl, rfl⟩) | (go_at_call 74; refine HW5.out.mono ?_; rintro e w6 ⟨rfl, ov6, sv6, h6⟩; have HT6 := Nu.hid (HTI.out w6 ov6 sv6 h6); clear h6))
          go_roundw
          case rel => exact ⟨_, HT6.out⟩
          case measure => exact HLESS.out _ _ HT6.out (show kj + (kk + k1 + 1) + 1 < kj + kk + 2 + k1 + 1 by omega)
end

end Go.Proofs.YtalfpbalekbinaaGreat

/-
  Four cells are written: what lay ahead of them lies as it lay.
-/
namespace Go.Proofs.YtalfpbalekbinaaGreat
open Go.RowKit

theorem below_put4 {w w' : World} {B R : Nat} (h : Below B w w') (hR : B ≤ R) (a b c d : Value) : Below B w (put4 w' R a b c d) :=
  (((h.setCell (p := ⟨R, 0, none⟩) hR a).setCell (p := ⟨R, 1, none⟩) hR b).setCell (p := ⟨R, 2, none⟩) hR c).setCell (p := ⟨R, 3, none⟩) hR d

end Go.Proofs.YtalfpbalekbinaaGreat

/-
  A walk that begins.
-/
namespace Go.Proofs.YtalfpbalekbinaaGreat
open Go.RowKit

/-- What newWalker answers. -/
def NewWPost (av : Value) (n m : Nat) (w : World) (e : Ending) (w' : World) : Prop :=
  ∃ p gp gh go gr, e = .returned (.pointer (some ⟨p, 0, none⟩)) ∧ w'.heap[p]? = some (.cells #[av, .slice (some ⟨gp, 0, none⟩) n n, .slice (some ⟨gh, 0, none⟩) n n, .slice (some ⟨go, 0, none⟩) 0 n, .slice (some ⟨gr, 0, none⟩) m m, .slice none 0 0] 95 (0, 0)) ∧
    IntsBlk w' gp (List.replicate n (-1)) ∧ IntsBlk w' gh (List.replicate n (-1)) ∧ IntsBlk w' gr (List.replicate m (-1)) ∧ IntsBlk w' go (List.replicate n 0) ∧
    (w.heap.size ≤ p ∧ w.heap.size ≤ gp ∧ w.heap.size ≤ gh ∧ w.heap.size ≤ go ∧ w.heap.size ≤ gr) ∧ (p ≠ gp ∧ p ≠ gh ∧ p ≠ go ∧ p ≠ gr ∧ gp ≠ gh ∧ gp ≠ go ∧ gp ≠ gr ∧ gh ≠ go ∧ gh ≠ gr ∧ go ≠ gr) ∧ Below w.heap.size w w'

set_option maxRecDepth 100000 in
set_option maxHeartbeats 8000000 in
theorem newWalker_any (av : Value) (n : Nat) (es : List (Int × Int)) (w : World) (h : IsAdj w av n es) :
    Calls Tryz.prog 50 #[av] w (NewWPost av n es.length w) := by
  obtain ⟨i0, hi, hz0, hz1, hz2⟩ := info_parts Tryz.infoNum
  obtain ⟨hb1, hb2⟩ := h.bounds
  have hav : ∃ q, av = .pointer q := by
    rcases h with ⟨h, _⟩ | ⟨_, p, h, _⟩
    · exact ⟨_, h⟩
    · exact ⟨_, h⟩
  obtain ⟨q, rfl⟩ := hav
  have hN : ∀ V, Below w.heap.size w V → Calls Tryz.prog 34 #[.pointer q] V fun e V' => e = .returned (.int .i64 (n : Int)) ∧ V' = V := fun V hV => aN_any _ n es V (h.later hV)
  have hM : ∀ V, Below w.heap.size w V → Calls Tryz.prog 56 #[.pointer q] V fun e V' => e = .returned (.int .i64 (es.length : Int)) ∧ V' = V := fun V hV => aM_any _ n es V (h.later hV)
  have hU : ∀ V (k : Nat), k ≤ 8388608 → Calls Tryz.prog 67 #[.int .i64 (k : Int)] V fun e V' => ∃ g, e = .returned (.slice (some ⟨g, 0, none⟩) k k) ∧ V.heap.size ≤ g ∧ IntsBlk V' g (List.replicate k (-1)) ∧ Below V.heap.size V V' := fun V k hk => unset_any k V hk
  have hmk : ∀ W, (Instr.makeSlice 26 (.int .i64 0) (.int .i64 (n : Int))).run Tryz.prog W = .ok (.slice (some ⟨W.heap.size, 0, none⟩) 0 n) (W.alloc (.cells (madeCells #[.int .i64 0] n) 3)) := fun W => by
    have := run_make (P := Tryz.prog) W 26 3 i0 (.int .i64 0) Tryz.underlying26 hi hz0 .i64 .i64 0 (n : Int) (by omega) (by omega) (by rw [hz2]; omega) (by omega)
    rw [this, hz1]
    simp [Value.cells]
  obtain ⟨m, hm⟩ : ∃ m, es.length = m := ⟨_, rfl⟩
  rw [hm] at hM hb2 ⊢
  have HN := Nu.hid hN
  have HM := Nu.hid hM
  have HU := Nu.hid hU
  have hbd : Below w.heap.size w w.drew := (Below.refl _ _).drew
  clear hN hM hU h hm
  go_enter Tryz.func50, Tryz.ntmps50
  go_wp2_with fail
  go_region_held3 (fun V => Below w.heap.size w V) (first | assumption | exact hbd | exact Below.alloc (by first | assumption | exact hbd) (Below.size (by first | assumption | exact hbd)) _)
    ((first
      | (go_at_call 34; refine (HN.out _ (by first | assumption | exact hbd)).mono ?_; rintro e V1 ⟨rfl, rfl⟩)
      | (go_at_call 56; refine (HM.out _ (by first | assumption | exact hbd)).mono ?_; rintro e V1 ⟨rfl, rfl⟩)
      | (go_at_call 67; refine (HU.out _ _ (by omega)).mono ?_; rintro e V2 ⟨g, rfl, hg1, hg2, hv2⟩; have hb2 : Below w.heap.size w V2 := Below.trans (by first | assumption | exact hbd) (hv2.mono (Below.size (by first | assumption | exact hbd))))))
  all_goals
    clear HN HM HU hmk
    go_wp2
    go_ret
  all_goals
    rename_i bA gA h1A VA h2A h3A h4A gB h1B h2B h3B h4B hZ
    have s1 := h3A.size
    have s2 := h3B.size
    have s3 := hv2.size
    have l1 := h2A.lt
    have l2 := h2B.lt
    have l3 := hg2.lt
    have u1 := h1A
    have u3 := hg1
    have hwd : w.drew.heap.size = w.heap.size := rfl
    simp only [World.size_alloc, hwd] at s1 s2 s3 u1 u3
    refine ⟨_, gA, gB, _, g, rfl, alloc_at (by simp), ?_, ?_, ?_, ?_, ?_, ?_, hZ⟩
    · repeat (first | exact h2A | refine IntsBlk.later ?_ hv2 | refine IntsBlk.later ?_ h3B | refine IntsBlk.alloc ?_ _)
    · repeat (first | exact h2B | refine IntsBlk.later ?_ hv2 | refine IntsBlk.alloc ?_ _)
    · repeat (first | exact hg2 | refine IntsBlk.alloc ?_ _)
    · repeat (first | (refine made_blk ?_; simp; done) | refine IntsBlk.later ?_ hv2 | refine IntsBlk.alloc ?_ _)
    · try simp only [World.size_alloc]
      refine ⟨?_, ?_, ?_, ?_, ?_⟩ <;> omega
    · try simp only [World.size_alloc]
      refine ⟨?_, ?_, ?_, ?_, ?_, ?_, ?_, ?_, ?_, ?_⟩ <;> omega

end Go.Proofs.YtalfpbalekbinaaGreat
