/-
  To reach a vertex; to walk a half-edge.
-/
import Derived.Test.YtponmjipbcmlhaaDfMem
import Derived.Deep.RegionHeld3
namespace Go.Proofs.Ytponmjipbcmlhaa
open Go.RowKit

section
variable {w0 w : World} {p gp gh gr : Nat} {av ov sv : Value} {n : Nat} {es : List (Int × Int)} {s : Df.St} {K : List Int}

/-- What is so behind a step of the walk. -/
def WPost (w0 : World) (p gp gh gr : Nat) (av : Value) (n : Nat) (es : List (Int × Int)) (s : Df.St) (K : List Int) (e : Ending) (w' : World) : Prop :=
  e = .returned (.tuple #[]) ∧ ∃ ov sv, WalkAt w0 w' p gp gh gr av ov sv n es.length s K

theorem getD_of {l : List Int} {i : Nat} (d : Int) (h : i < l.length) : l[i]? = some (l.getD i d) := by
  rw [List.getD_eq_getElem?_getD, List.getElem?_eq_getElem h]
  rfl

set_option maxRecDepth 100000 in
set_option maxHeartbeats 4000000 in
theorem reached_any (v : Nat) (h : WalkAt w0 w p gp gh gr av ov sv n es.length s K) (hl : s.hei.length = n) (hv : v < n) :
    Calls Try.prog 40 #[.pointer (some ⟨p, 0, none⟩), .int .i64 (v : Int)] w fun e w' => e = .returned (.bool (s.height v != -1)) ∧ w' = w := by
  have c2 := h.c2
  have d0 := h.ih.cell (getD_of (-1) (by omega : v < s.hei.length))
  have e0 : (0 : Int) ≤ (v : Int) := by omega
  have e1 : (v : Int) < (n : Int) := by omega
  clear h
  obtain ⟨x, hx⟩ : ∃ x, s.hei.getD v (-1) = x := ⟨_, rfl⟩
  rw [hx] at d0
  have hx' : s.height v = x := hx
  rw [hx']
  clear hx hx'
  go_enter Try.func40, Try.ntmps40
  go_wp2
  go_ret
  exact ⟨rfl, rfl⟩

set_option maxRecDepth 100000 in
set_option maxHeartbeats 4000000 in
theorem walked_any (h : Nat) (hW : WalkAt w0 w p gp gh gr av ov sv n es.length s K) (hl : s.ori.length = es.length) (hh : h < 2 * es.length) (hm : es.length ≤ 4194304) :
    Calls Try.prog 60 #[.pointer (some ⟨p, 0, none⟩), .int .i64 (h : Int)] w fun e w' => e = .returned (.bool (s.dir (h / 2) != -1)) ∧ w' = w := by
  have c4 := hW.c4
  obtain ⟨jh, hjh⟩ : ∃ jh, h / 2 = jh := ⟨_, rfl⟩
  have d0 := hW.ir.cell (getD_of (-1) (by omega : jh < s.ori.length))
  rw [hjh]
  have htd : (h : Int).tdiv 2 = (jh : Int) := by rw [Int.tdiv_eq_ediv_of_nonneg (by omega)]; omega
  have htd2 : (h : Int) / 2 = (jh : Int) := by omega
  have e0 : (0 : Int) ≤ (jh : Int) := by omega
  have e1 : (jh : Int) < (es.length : Int) := by omega
  have e2 : (0 : Int) ≤ (h : Int) := by omega
  obtain ⟨x, hx⟩ : ∃ x, s.ori.getD jh (-1) = x := ⟨_, rfl⟩
  rw [hx] at d0
  have hx' : s.dir jh = x := hx
  rw [hx']
  clear hW hx hx'
  go_enter Try.func60, Try.ntmps60
  go_wp2
  go_ret
  exact ⟨rfl, rfl⟩

set_option maxRecDepth 100000 in
set_option maxHeartbeats 8000000 in
theorem reach_any (v : Nat) (x y : Int) (hadj : IsAdj w0 av n es) (h : WalkAt w0 w p gp gh gr av ov sv n es.length s K) (hp : s.par.length = n) (hl : s.hei.length = n) (hv : v < n) (ho : s.ord.length ≤ 17592186044000) (hK : K.length ≤ 17592186044000) :
    Calls Try.prog 55 #[.pointer (some ⟨p, 0, none⟩), .int .i64 (v : Int), .int .i64 x, .int .i64 y] w (WPost w0 p gp gh gr av n es (s.reach v x y) (K ++ [Cs.firstI n es v])) := by
  obtain ⟨i0, hi, hz0, hz1, hz2⟩ := info_parts Try.infoNum
  have h1 := h.setPar v x
  have h2 := h1.setHei v y
  have c1 := h.c1
  have d1 := h.ip.cell (getD_of (-1) (by omega : v < s.par.length))
  have f1 := h.ip.free v
  have c2 := h1.c2
  have d2 := h1.ih.cell (getD_of (-1) (by dsimp only; omega : v < { s with par := s.par.set v x }.hei.length))
  have f2 := h1.ih.free v
  have c3 := h2.c3
  have e0 : (0 : Int) ≤ (v : Int) := by omega
  have e1 : (v : Int) < (n : Int) := by omega
  obtain ⟨w2, hw2⟩ : ∃ w2, w2 = (w.setCell ⟨gp, v, none⟩ (.int .i64 x)).setCell ⟨gh, v, none⟩ (.int .i64 y) := ⟨_, rfl⟩
  rw [← hw2] at h2
  have HW2 := Nu.hid hw2
  have hav : ∃ q, av = .pointer q := by
    rcases hadj with ⟨h, _⟩ | ⟨_, p, h, _⟩
    · exact ⟨_, h⟩
    · exact ⟨_, h⟩
  obtain ⟨q, rfl⟩ := hav
  have hrow : w2.ownsRow w0.heap.size 3 1 ov s.ord.length (s.ord.map (Value.int .i64)) := h2.ow
  have HROW := Nu.hid hrow
  have H2 := Nu.hid h2
  have hB := h2.bel.size
  have hlt2 := h2.lt
  have HADJ := Nu.hid hadj
  clear h h1 h2 hw2 hrow hadj
  go_enter Try.func55, Try.ntmps55
  go_wp2_with (at_builtin; rw [← HW2.out]; refine Hid.out ?_)
  refine Nu.hid ?_
  have hszw : w2.heap.size = w.heap.size := by rw [HW2.out]; simp
  refine wpList_append_own_at _ rfl _ _ 26 rfl w0.heap.size 3 i0 (.int .i64 0) 1 8 Try.underlying26 hi hz0 hz1 hz2 rfl (by decide) ov _ _ rfl (World.ownsRow.alloc HROW.out _) ⟨w.heap.size, 0, none⟩ 1 1 [.int .i64 (v : Int)] rfl rfl (by rw [← hszw]; exact cell_one_new _ _ _) (by simp [Value.oneCell']) (by unfold maxLen; omega) (by omega) (by simp; omega) ?_
  intro ov' w3 hown hg _ hat
  have hz : OwnZ w3 w0.heap.size ov' (s.ord ++ [(v : Int)]) := by
    unfold OwnZ
    rw [List.length_append, List.map_append]
    exact hown
  obtain ⟨h3, c5, f5, _⟩ := H2.out.putOrd hz hg (by simpa using hat)
  obtain ⟨g3, cap3, hv3⟩ := own_succ hown
  subst hv3
  obtain ⟨w4, hw4⟩ : ∃ w4, w4 = w3.setCell ⟨p, 3, none⟩ (.slice (some ⟨g3, 0, none⟩) (s.ord.length + 1) cap3) := ⟨_, rfl⟩
  rw [← hw4] at h3
  have HW4 := Nu.hid hw4
  have H3 := Nu.hid h3
  clear hown hg hat hz hw4 h3 c1 c2 c3 d1 d2 f1 f2 HROW H2
  go_wp2_with fail
  rw [← HW4.out]
  have c6 := H3.out.c0
  have HF : Hid (∀ V, Below w4.heap.size w4 V → Calls Try.prog 69 #[.pointer q, .int .i64 (v : Int)] V fun e V' => e = .returned (.int .i64 (Cs.firstI n es v)) ∧ Below V.heap.size V V') := fun V hV => (first_any _ n es v V (HADJ.out.later (H3.out.bel.trans (hV.mono H3.out.bel.size)))).mono (by
    rintro e V' ⟨rfl, k, rfl⟩
    exact ⟨rfl, below_drewN (Below.refl _ _) k⟩)
  have HP : Hid (∀ V, Below w4.heap.size w4 V → Calls Try.prog 58 #[.pointer (some ⟨p, 5, none⟩), .int .i64 (Cs.firstI n es v)] V fun e V' => e = .returned (.tuple #[]) ∧ ∃ ov sv, WalkAt w0 V' p gp gh gr (.pointer q) ov sv n es.length (s.reach v x y) (K ++ [Cs.firstI n es v])) := fun V hV => by
    have hW := H3.out.later hV
    refine (push_any p 5 _ _ _ _ K (Cs.firstI n es v) V hW.stk hW.bel.size hK).mono ?_
    intro e V' hp
    obtain ⟨sv', h⟩ := hW.pushed hp
    exact ⟨hp.1, _, sv', h⟩
  have hbd : Below w4.heap.size w4 w4.drew := (Below.refl _ _).drew
  have hS : ∀ V, Below w4.heap.size w4 V → (V.cell? ⟨p, 0, none⟩ = some (.pointer q)) := fun V hV => (H3.out.later hV).c0
  have HS := Nu.hid hS
  clear c6 hS c5 f5
  go_region_held3 (fun V => V.cell? ⟨p, 0, none⟩ = some (.pointer q))
    (first | exact HS.out _ (by first | assumption | exact hbd) | (obtain ⟨_, _, hw⟩ := ‹∃ ov sv, WalkAt _ _ _ _ _ _ _ ov sv _ _ _ _›; exact hw.c0))
    ((first
      | (go_at_call 69; refine (HF.out _ (by first | assumption | exact hbd)).mono ?_; rintro e V1 ⟨rfl, hv1⟩; have hb1 : Below w4.heap.size w4 V1 := Below.trans (by first | assumption | exact hbd) (hv1.mono (Below.size (by first | assumption | exact hbd))))
      | (go_at_call 58; refine (HP.out _ (by first | assumption | exact hbd)).mono ?_; rintro e V2 ⟨rfl, hv2⟩)))
  all_goals
    go_wp2
    go_end0
    exact ⟨rfl, hv2⟩
end

end Go.Proofs.Ytponmjipbcmlhaa
