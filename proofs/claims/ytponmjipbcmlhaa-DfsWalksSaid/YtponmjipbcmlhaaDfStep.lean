/-
  To walk a half-edge.
-/
import Derived.Test.YtponmjipbcmlhaaDfReach
namespace Go.Proofs.Ytponmjipbcmlhaa
open Go.RowKit

theorem Cs.fr_ne_to {n : Nat} {es : List (Int × Int)} (hv : Si.Val n es) {h : Nat} (hh : h < 2 * es.length) : Cs.fr es h ≠ Cs.to es h := by
  obtain ⟨p, hp⟩ : ∃ p, es[h / 2]? = some p := ⟨_, List.getElem?_eq_getElem (by omega)⟩
  have ho := hv.each _ p hp
  unfold Si.ok at ho
  unfold Cs.fr Cs.to
  rw [List.getD_eq_getElem?_getD, hp]
  dsimp only [Option.getD_some]
  split <;> omega

/-- An Adj that isn't nil, or of nothing, is of a valid graph. -/
theorem IsAdj.val {w : World} {v : Value} {n : Nat} {es : List (Int × Int)} (h : IsAdj w v n es) {i : Nat} (hi : i < 2 * es.length) : Si.Val n es := by
  rcases h with ⟨_, _, rfl⟩ | ⟨_, _, _, h, _⟩
  · simp at hi
  · exact h

section
variable {w0 w : World} {p gp gh gr : Nat} {av ov sv : Value} {n r : Nat} {es : List (Int × Int)} {s : Df.St} {K : List Int}

set_option maxRecDepth 100000 in
set_option maxHeartbeats 8000000 in
theorem walk_back (h : Nat) (hadj : IsAdj w0 av n es) (hW : WalkAt w0 w p gp gh gr av ov sv n es.length s K) (b : Df.Bd n es r s) (hh : h < 2 * es.length) (hv : s.height (Cs.to es h) ≠ -1) :
    Calls Try.prog 61 #[.pointer (some ⟨p, 0, none⟩), .int .i64 (h : Int)] w (WPost w0 p gp gh gr av n es (s.mark h) K) := by
  have hval := hadj.val hh
  obtain ⟨hbn, hbm⟩ := hadj.bounds
  have ht := (Cs.half_lt hval hh).2
  obtain ⟨jh, hjh⟩ : ∃ jh, h / 2 = jh := ⟨_, rfl⟩
  have c4 := hW.c4
  have d4 := hW.ir.cell (getD_of (-1) (by rw [b.lo]; omega : jh < s.ori.length))
  have f4 := hW.ir.free jh
  have h1 := hW.setOri jh (h : Int)
  have hm : s.mark h = { s with ori := s.ori.set jh (h : Int) } := by unfold Df.St.mark; rw [hjh]
  rw [← hm] at h1
  have htd : (h : Int).tdiv 2 = (jh : Int) := by rw [Int.tdiv_eq_ediv_of_nonneg (by omega)]; omega
  have htd2 : (h : Int) / 2 = (jh : Int) := by omega
  have e0 : (0 : Int) ≤ (jh : Int) := by omega
  have e1 : (jh : Int) < (es.length : Int) := by omega
  have e2 : (0 : Int) ≤ (h : Int) := by omega
  obtain ⟨w1, hw1⟩ : ∃ w1, w1 = w.setCell ⟨gr, jh, none⟩ (.int .i64 (h : Int)) := ⟨_, rfl⟩
  rw [← hw1] at h1
  have HT := to_any av n es h w1 (hadj.later h1.bel)
  rw [Cs.toI_in hh] at HT
  have HR := reached_any (Cs.to es h) h1 b.lh ht
  have hr : ((s.mark h).height (Cs.to es h) != -1) = true := by
    show (s.height (Cs.to es h) != -1) = true
    simpa using hv
  rw [hr] at HR
  have hc0 := h1.c0
  have HW1 := Nu.hid hw1
  have H1 := Nu.hid h1
  have HT' := Nu.hid HT
  have HR' := Nu.hid HR
  clear hval hv hm h1 hw1 HT HR hr hW hadj b
  rw [HW1.out] at hc0
  go_enter Try.func61, Try.ntmps61
  go_wp2_with (first | (go_at_call 65; rw [← HW1.out]; refine HT'.out.mono ?_; rintro e V ⟨rfl, rfl⟩) | (go_at_call 40; refine HR'.out.mono ?_; rintro e V ⟨rfl, rfl⟩))
  go_end0
  exact ⟨rfl, _, _, H1.out⟩

set_option maxRecDepth 100000 in
set_option maxHeartbeats 8000000 in
theorem walk_tree (h : Nat) (hadj : IsAdj w0 av n es) (hW : WalkAt w0 w p gp gh gr av ov sv n es.length s K) (b : Df.Bd n es r s) (hh : h < 2 * es.length) (hv : s.height (Cs.to es h) = -1) (ho : s.ord.length ≤ 17592186044000) (hK : K.length ≤ 17592186044000) :
    Calls Try.prog 61 #[.pointer (some ⟨p, 0, none⟩), .int .i64 (h : Int)] w (WPost w0 p gp gh gr av n es (s.go es h) (K ++ [Cs.firstI n es (Cs.to es h)])) := by
  have hval := hadj.val hh
  obtain ⟨hbn, hbm⟩ := hadj.bounds
  obtain ⟨hf, ht⟩ := Cs.half_lt hval hh
  have hne := Cs.fr_ne_to hval hh
  obtain ⟨jh, hjh⟩ : ∃ jh, h / 2 = jh := ⟨_, rfl⟩
  have c4 := hW.c4
  have d4 := hW.ir.cell (getD_of (-1) (by rw [b.lo]; omega : jh < s.ori.length))
  have f4 := hW.ir.free jh
  have h1 := hW.setOri jh (h : Int)
  have hm : s.mark h = { s with ori := s.ori.set jh (h : Int) } := by unfold Df.St.mark; rw [hjh]
  rw [← hm] at h1
  have htd : (h : Int).tdiv 2 = (jh : Int) := by rw [Int.tdiv_eq_ediv_of_nonneg (by omega)]; omega
  have htd2 : (h : Int) / 2 = (jh : Int) := by omega
  have e0 : (0 : Int) ≤ (jh : Int) := by omega
  have e1 : (jh : Int) < (es.length : Int) := by omega
  have e2 : (0 : Int) ≤ (h : Int) := by omega
  obtain ⟨w1, hw1⟩ : ∃ w1, w1 = w.setCell ⟨gr, jh, none⟩ (.int .i64 (h : Int)) := ⟨_, rfl⟩
  rw [← hw1] at h1
  have HT := to_any av n es h w1 (hadj.later h1.bel)
  rw [Cs.toI_in hh] at HT
  have HR := reached_any (Cs.to es h) h1 b.lh ht
  have hr : ((s.mark h).height (Cs.to es h) != -1) = false := by
    show (s.height (Cs.to es h) != -1) = false
    simpa using hv
  rw [hr] at HR
  have hc0 := h1.c0
  have hhb := b.hh _ hf
  have hbh : b.lh = b.lh := rfl
  have HW1 := Nu.hid hw1
  have H1 := Nu.hid h1
  have HT' := Nu.hid HT
  have HR' := Nu.hid HR
  have hav : ∃ q, av = .pointer q := by
    rcases hadj with ⟨h, _⟩ | ⟨_, p, h, _⟩
    · exact ⟨_, h⟩
    · exact ⟨_, h⟩
  obtain ⟨q, rfl⟩ := hav
  obtain ⟨x, hx⟩ : ∃ x, s.height (Cs.fr es h) = x := ⟨_, rfl⟩
  have hgo : s.go es h = (s.mark h).reach (Cs.to es h) h (x + 1) := by unfold Df.St.go; rw [hx]
  rw [hgo]
  rw [hx] at hhb
  have HF : Hid (∀ V, Below w1.heap.size w1 V → Calls Try.prog 63 #[.pointer q, .int .i64 (h : Int)] V fun e V' => e = .returned (.int .i64 (Cs.fr es h : Int)) ∧ V' = V) := fun V hV => by
    have := from_any _ n es h V (hadj.later (H1.out.bel.trans (hV.mono H1.out.bel.size)))
    rw [Cs.frI_in hh] at this
    exact this
  have hS : ∀ V (s' : Df.St) ov sv K', WalkAt w0 V p gp gh gr (.pointer q) ov sv n es.length s' K' → s'.hei.length = n → s'.height (Cs.fr es h) = x → (V.cell? ⟨p, 2, none⟩ = some (.slice (some ⟨gh, 0, none⟩) n n) ∧ V.cell? ⟨p, 0, none⟩ = some (.pointer q) ∧ V.cell? ⟨gh, Cs.fr es h, none⟩ = some (.int .i64 x)) := fun V s' ov sv K' hw hl hx => by
    refine ⟨hw.c2, hw.c0, ?_⟩
    have := hw.ih.cell (getD_of (-1) (by omega : Cs.fr es h < s'.hei.length))
    rw [this]
    exact congrArg (fun z => some (Value.int .i64 z)) hx
  have HP : Hid (∀ V, Below w1.heap.size w1 V → Calls Try.prog 55 #[.pointer (some ⟨p, 0, none⟩), .int .i64 (Cs.to es h : Int), .int .i64 (h : Int), .int .i64 (x + 1)] V fun e V' => e = .returned (.tuple #[]) ∧ (∃ ov sv, WalkAt w0 V' p gp gh gr (.pointer q) ov sv n es.length ((s.mark h).reach (Cs.to es h) h (x + 1)) (K ++ [Cs.firstI n es (Cs.to es h)])) ∧ (V'.cell? ⟨p, 2, none⟩ = some (.slice (some ⟨gh, 0, none⟩) n n) ∧ V'.cell? ⟨p, 0, none⟩ = some (.pointer q) ∧ V'.cell? ⟨gh, Cs.fr es h, none⟩ = some (.int .i64 x))) := fun V hV => by
    refine (reach_any (Cs.to es h) h (x + 1) hadj (H1.out.later hV) b.lp b.lh ht ho hK).mono ?_
    rintro e V' ⟨he, ov', sv', hw⟩
    refine ⟨he, ⟨ov', sv', hw⟩, hS V' _ ov' sv' _ hw ?_ ?_⟩
    · show (s.hei.set _ _).length = n
      rw [List.length_set]
      exact b.lh
    · show (s.hei.set _ _).getD _ _ = x
      rw [List.getD_eq_getElem?_getD, List.getElem?_set, if_neg (fun e => hne e.symm), ← List.getD_eq_getElem?_getD]
      exact hx
  have HS : Hid (∀ V, Below w1.heap.size w1 V → (V.cell? ⟨p, 2, none⟩ = some (.slice (some ⟨gh, 0, none⟩) n n) ∧ V.cell? ⟨p, 0, none⟩ = some (.pointer q) ∧ V.cell? ⟨gh, Cs.fr es h, none⟩ = some (.int .i64 x))) := fun V hV => hS V _ _ _ _ (H1.out.later hV) b.lh hx
  obtain ⟨f, hff⟩ : ∃ f, Cs.fr es h = f := ⟨_, rfl⟩
  obtain ⟨t, htt⟩ : ∃ t, Cs.to es h = t := ⟨_, rfl⟩
  rw [hff] at HF HS HP hf
  rw [htt] at HT' HR' HP ⊢
  have i0 : (0 : Int) ≤ (f : Int) := by omega
  have i1 : (f : Int) < (n : Int) := by omega
  have hbd : Below w1.heap.size w1 w1.drew := (Below.refl _ _).drew
  have hxw : IntKind.i64.wrap (x + 1) = x + 1 := by rw [IntKind.wrap_i64]; omega
  clear hval hv hm h1 hw1 HT HR hr hW hadj b hgo hS hx hne hff htt hbh
  rw [HW1.out] at hc0
  go_enter Try.func61, Try.ntmps61
  go_wp2_with (first | (go_at_call 65; rw [← HW1.out]; refine HT'.out.mono ?_; rintro e V ⟨rfl, rfl⟩) | (go_at_call 40; refine HR'.out.mono ?_; rintro e V ⟨rfl, rfl⟩))
  go_region_held3 (fun V => V.cell? ⟨p, 2, none⟩ = some (.slice (some ⟨gh, 0, none⟩) n n) ∧ V.cell? ⟨p, 0, none⟩ = some (.pointer q) ∧ V.cell? ⟨gh, f, none⟩ = some (.int .i64 x))
    (first | exact HS.out _ (by first | assumption | exact hbd) | assumption)
    ((first
      | (go_at_call 63; refine (HF.out _ (by first | assumption | exact hbd)).mono ?_; rintro e V1 ⟨rfl, rfl⟩)
      | (go_at_call 55; refine (HP.out _ (by first | assumption | exact hbd)).mono ?_; rintro e V2 ⟨rfl, hv2, hs2⟩)))
  all_goals
    go_wp2
    go_end0
    exact ⟨rfl, hv2⟩
end

end Go.Proofs.Ytponmjipbcmlhaa
