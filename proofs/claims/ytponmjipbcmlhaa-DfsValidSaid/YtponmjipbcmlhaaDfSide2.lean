/-
  The vertices below each stand side by side: sideBySide.
-/
import Derived.Test.YtponmjipbcmlhaaDfSide
import Derived.Lib.SliceRun
namespace Go.Proofs.Ytponmjipbcmlhaa
open Go.RowKit

namespace Df
theorem side_none {n : Nat} {es : List (Int × Int)} {s : St} {k : Nat} (h : side n es s k = none) : ∀ d, side n es s (k + d) = none
  | 0 => h
  | d + 1 => by
    show side n es s (k + d + 1) = none
    unfold side
    rw [side_none h d]
    rfl

theorem side_range {n : Nat} {es : List (Int × Int)} {s : St} (ho : Once n s n) {k : Nat} (hk : k ≤ n) {W B : List Int} (h : side n es s k = some (W, B)) : (∀ x ∈ W, 0 ≤ x ∧ x < (n : Int)) ∧ W.length ≤ k ∧ B.length = n := by
  have inv := side_inv ho k hk W B h
  refine ⟨fun x hx => ?_, inv.len, inv.lenB⟩
  obtain ⟨a, ha, rfl⟩ := inv.sub x hx
  exact (ho a (by omega)).1
end Df

/-- What sideBySide does. -/
def SidePost (w0 : World) (p gp : Nat) (av : Value) (f : For) (s : Df.St) (n : Nat) (es : List (Int × Int)) (P : List Int) (e : Ending) (w' : World) : Prop :=
  (∃ gb W B, e = .returned (.bool true) ∧ Df.side n es s n = some (W, B) ∧ ReadAt w0 w' p av f s (.slice (some ⟨gp, 0, none⟩) n n) (.slice (some ⟨gb, 0, none⟩) n n) ∧ IntsBlk w' gp P ∧ IntsBlk w' gb (Df.ends n W B)) ∨ (e = .returned (.bool false) ∧ Df.side n es s n = none ∧ Below w0.heap.size w0 w')

section
variable {w0 w : World} {p gp : Nat} {av : Value} {f : For} {s : Df.St} {pv bv : Value} {n : Nat} {es : List (Int × Int)} {P : List Int}

set_option maxRecDepth 100000 in
set_option maxHeartbeats 16000000 in
theorem sideBySide_any (hadj : IsAdj w0 av n es) (hF : LstF w0 f s) (hL : Df.Lens n es s) (ho : Df.Once n s n) (h : ReadAt w0 w p av f s (.slice (some ⟨gp, 0, none⟩) n n) bv) (hip : IntsBlk w gp P) (hne : gp ≠ p) (hlg : w0.heap.size ≤ gp) :
    Calls Try.prog 46 #[.pointer (some ⟨p, 0, none⟩)] w (SidePost w0 p gp av f s n es P) := by
  obtain ⟨i0, hi, hz0, hz1, hz2⟩ := info_parts Try.infoNum
  obtain ⟨hbn, hbm⟩ := hadj.bounds
  obtain ⟨l1, l2, l3, l4⟩ := hL
  obtain ⟨a1, a2, a3, a4, k1, k2, k3, k4⟩ := f
  have hav : ∃ q, av = .pointer q := by
    rcases hadj with ⟨h, _⟩ | ⟨_, p, h, _⟩
    · exact ⟨_, h⟩
    · exact ⟨_, h⟩
  obtain ⟨qa, rfl⟩ := hav
  have c0 := h.c0
  have HN := Nu.hid (aN_any (.pointer qa) n es w (hadj.later h.bel))
  have hmk : ∀ V, (Instr.makeSlice 26 (.int .i64 (n : Int)) (.int .i64 (n : Int))).run Try.prog V = .ok (.slice (some ⟨V.heap.size, 0, none⟩) n n) (V.alloc (.cells (madeCells #[.int .i64 0] n) 3)) := fun V => by
    have := run_make (P := Try.prog) V 26 3 i0 (.int .i64 0) Try.underlying26 hi hz0 .i64 .i64 (n : Int) (n : Int) (by omega) (Int.le_refl _) (by rw [hz2]; omega) (by omega)
    rw [this, hz1]
    simp [Value.cells]
  -- the ends, the way
  have hlp := h.lt
  have hlgp := hip.lt
  have f6 := h.free 6
  have c6 := h.c6
  obtain ⟨w1, hw1⟩ : ∃ w1, w1 = w.setCell ⟨p, 6, none⟩ (.slice (some ⟨w.heap.size, 0, none⟩) n n) := ⟨_, rfl⟩
  have h1 := h.setB (.slice (some ⟨w.heap.size, 0, none⟩) n n)
  have hip1 := hip.set_far (i := 6) (b := p) hne (.slice (some ⟨w.heap.size, 0, none⟩) n n)
  rw [← hw1] at h1 hip1
  have hs1 : w1.heap.size = w.heap.size := by rw [hw1]; simp
  obtain ⟨w2, hw2⟩ : ∃ w2, w2 = w1.alloc (.cells (madeCells #[.int .i64 0] n) 3) := ⟨_, rfl⟩
  have hb2 : Below w1.heap.size w1 w2 := by rw [hw2]; exact (Below.refl _ _).alloc (Nat.le_refl _) _
  have hib2 : IntsBlk w2 w.heap.size (List.replicate n 0) := by
    unfold IntsBlk
    rw [hw2, alloc_at hs1, ← made_zeros]
  have h2 := h1.later hb2
  have hip2 := hip1.later hb2
  obtain ⟨w3, hw3⟩ : ∃ w3, w3 = w2.alloc (.cells #[.slice none 0 0] 70) := ⟨_, rfl⟩
  have hb3 : Below w2.heap.size w2 w3 := by rw [hw3]; exact (Below.refl _ _).alloc (Nat.le_refl _) _
  have hs2 : w2.heap.size = w.heap.size + 1 := by rw [hw2]; simp [hs1]
  have hsz0 := h.bel.size
  have hside : SideAt w0 w3 p (w.heap.size + 1) gp w.heap.size (.pointer qa) ⟨a1, a2, a3, a4, k1, k2, k3, k4⟩ s n (.slice none 0 0) P (List.replicate n 0) [] := by
    refine ⟨h2.later hb3, hip2.later hb3, hib2.later hb3, ⟨?_, rfl, .nil _ _, by simp [Value.ownBlock]⟩, ⟨Ne.symm hne, by omega, by omega, by omega, by omega, by omega⟩, ⟨hlg, hsz0, by omega⟩, by simp [Value.ownBlock]⟩
    rw [hw3]
    exact alloc_at hs2
  have c3 := hside.rd.c3
  have HSIDE := Nu.hid hside
  have HW1 := Nu.hid hw1
  have HW2 := Nu.hid hw2
  have HW3 := Nu.hid hw3
  have HADJ := Nu.hid hadj
  have HF := Nu.hid hF
  have HO := Nu.hid ho
  dsimp only at c3
  rw [hw3, hw2, hw1] at c3
  clear hadj hF ho h hip h1 hip1 hb2 h2 hib2 hip2 hb3 hside hw1 hw2 hw3
  go_enter Try.func46, Try.ntmps46
  go_wp2_with (go_at_call 39; refine HN.out.mono ?_; rintro e w4 ⟨rfl, hw4⟩; obtain rfl := hw4.symm)
  rw [← HW1.out, ← HW2.out, ← HW3.out]
  obtain ⟨Q, hQ⟩ : ∃ Q, w.heap.size + 1 = Q := ⟨_, rfl⟩
  obtain ⟨gb, hgb⟩ : ∃ gb, w.heap.size = gb := ⟨_, rfl⟩
  rw [hgb] at hQ
  rw [hgb, hQ] at HSIDE ⊢
  clear hmk c0 c6 f6 c3 HW1 HW2 HW3
  go_loopw [22] (fun c wr => ∃ (k : Nat) (W B : List Int) (v : Value), k ≤ n ∧ c = .int .i64 k ∧ Df.side n es s k = some (W, B) ∧ SideAt w0 wr p Q gp gb (.pointer qa) ⟨a1, a2, a3, a4, k1, k2, k3, k4⟩ s n v P B W) (fun c _ => n - (intOf c).toNat)
  case atStart => exact ⟨0, [], List.replicate n 0, _, Nat.zero_le _, rfl, rfl, HSIDE.out⟩
  case round =>
    obtain ⟨k, W, B, v, hk, rfl, hsd, hs⟩ := hrel
    obtain ⟨hrg, hWl, hBl⟩ := Df.side_range HO.out hk hsd
    have c1 := hs.rd.c1
    have c0 := hs.rd.c0
    have c3 := hs.rd.c3
    dsimp only at c1 c3
    rw [l1] at c1
    rw [l3] at c3
    by_cases hlt : k < n
    · have hlti : (k : Int) < (n : Int) := by omega
      have hk0 : (0 : Int) ≤ (k : Int) := by omega
      have hxr := (HO.out k hlt).1
      obtain ⟨b3, o3, e3, d3⟩ := lst_at (HF.out.later hs.rd.bel).l3 (i := k) (by omega)
      dsimp only at e3
      subst e3
      obtain ⟨x, hx⟩ : ∃ x, s.ord.getD k (-1) = x := ⟨_, rfl⟩
      have hxa : Df.at_ s.ord k = x := hx
      rw [hx] at d3
      rw [hxa] at hxr
      obtain ⟨y, rfl⟩ : ∃ y : Nat, x = (y : Int) := ⟨x.toNat, by omega⟩
      have y0 : (0 : Int) ≤ (y : Int) := by omega
      have y1 : (y : Int) < (n : Int) := by omega
      obtain ⟨b1, o1, e1, d1⟩ := lst_at (HF.out.later hs.rd.bel).l1 (i := y) (by omega)
      dsimp only at e1
      subst e1
      obtain ⟨z, hz⟩ : ∃ z, s.par.getD y (-1) = z := ⟨_, rfl⟩
      rw [hz] at d1
      obtain ⟨u, hu⟩ : ∃ u, Cs.frI es z = u := ⟨_, rfl⟩
      have hup : Df.up es s (Df.at_ s.ord k) = u := by
        rw [hxa]
        unfold Df.up
        rw [Int.toNat_natCast]
        have : Df.at_ s.par y = z := hz
        rw [this, hu]
      have HFR : Hid (∀ V, Below wr.heap.size wr V → Calls Try.prog 63 #[.pointer qa, .int .i64 z] V fun r V' => r = .returned (.int .i64 u) ∧ V' = V) := fun V hV => by
        have := from_any (.pointer qa) n es z V (HADJ.out.later (hs.later hV).rd.bel)
        rw [hu] at this
        exact this
      have HLV : Hid (∀ V, Below wr.heap.size wr V → Calls Try.prog 64 #[.pointer (some ⟨p, 0, none⟩), .pointer (some ⟨Q, 0, none⟩), .int .i64 u, .int .i64 (k : Int)] V (LeavePost w0 p Q gp gb (.pointer qa) ⟨some ⟨b1, o1, none⟩, a2, some ⟨b3, o3, none⟩, a4, k1, k2, k3, k4⟩ s n P (Df.leave u k W B))) := fun V hV => leave_any u k (hs.later hV) hBl hrg (by omega)
      have hsn : Df.side n es s (k + 1) = if u ≠ -1 ∧ (Df.leave u k W B).1 = [] then none else some ((y : Int) :: (Df.leave u k W B).1, (Df.leave u k W B).2) := by
        conv => lhs; unfold Df.side
        rw [hsd, Option.bind_some]
        dsimp only
        rw [hup, hxa]
      have hTl : (Df.leave u k W B).1.length ≤ k := by
        obtain ⟨X, hX, _, _⟩ := Df.leave_way (p := u) (i := (k : Int)) W B
        have := congrArg List.length hX
        rw [List.length_append] at this
        omega
      obtain ⟨T, hT⟩ : ∃ T, Df.leave u k W B = T := ⟨_, rfl⟩
      rw [hT] at HLV hsn hTl
      have HSN := Nu.hid hsn
      clear hT hsn hup hu hz hx hxa hxr hrg hWl hBl hsd hs c3
      go_wp2_with fail
      go_quiet ((go_at_call 63; exact Calls.quiet_of_same (HFR.out _ (below_drewN (Below.refl _ _) _))))
      go_wp2_with (go_at_call 64; refine (HLV.out _ (below_drewN (Below.refl _ _) _)).mono ?_; rintro e w5 ⟨rfl, v5, h5⟩; refine Hid.out ?_)
      refine Nu.hid ?_
      have hem := empty_any Q 0 _ _ _ _ _ w5 h5.st
      have hpu := (push_any Q 0 _ _ _ _ T.1.reverse (y : Int) w5 h5.st h5.rd.bel.size (by rw [List.length_reverse]; omega)).mono (R' := fun e w' => e = .returned (.tuple #[]) ∧ ∃ v', SideAt w0 w' p Q gp gb (.pointer qa) ⟨some ⟨b1, o1, none⟩, a2, some ⟨b3, o3, none⟩, a4, k1, k2, k3, k4⟩ s n v' P T.2 ((y : Int) :: T.1)) (fun e w' hp => ⟨hp.1, h5.pushed hp⟩)
      have HPU := Nu.hid hpu
      have HBEL := Nu.hid h5.rd.bel
      by_cases hu1 : u = -1
      · have t1 : (u != -1) = false := by simp [hu1]
        have HNX := Nu.hid (HSN.out.trans (if_neg (fun h => h.1 hu1)))
        clear hem hpu h5 hu1
        go_wp2_with (go_at_call 58; refine HPU.out.mono ?_; rintro e w6 ⟨rfl, v6, h6⟩; have H6 := Nu.hid h6; clear h6)
        go_roundw
        case rel => exact ⟨k + 1, _, _, v6, by omega, by go_num, HNX.out, H6.out⟩
        case measure => simp [intOf]; omega
      · have t1 : (u != -1) = true := by simp [hu1]
        by_cases hTe : T.1 = []
        · have hd : decide (T.1.reverse.length = 0) = true := by simp [hTe]
          rw [hd] at hem
          have HEM := Nu.hid hem
          have HNX : Hid (Df.side n es s n = none) := by
            have e1 : Df.side n es s (k + 1) = none := by rw [HSN.out, if_pos ⟨hu1, hTe⟩]
            have := Df.side_none e1 (n - (k + 1))
            rw [show k + 1 + (n - (k + 1)) = n by omega] at this
            exact this
          clear hem hpu h5 hu1 hTe hd
          go_wp2_with (go_at_call 56; refine HEM.out.mono ?_; rintro e w6 ⟨rfl, hw6⟩; obtain rfl := hw6.symm)
          go_ret
          exact .inr ⟨rfl, HNX.out, HBEL.out⟩
        · have hd : decide (T.1.reverse.length = 0) = false := by simp [hTe]
          rw [hd] at hem
          have HEM := Nu.hid hem
          have HNX := Nu.hid (HSN.out.trans (if_neg (fun h => hTe h.2)))
          clear hem hpu h5 hu1 hTe hd
          go_wp2_with (first | (go_at_call 56; refine HEM.out.mono ?_; rintro e w6 ⟨rfl, hw6⟩; obtain rfl := hw6.symm) | (go_at_call 58; refine HPU.out.mono ?_; rintro e w6 ⟨rfl, v6, h6⟩; have H6 := Nu.hid h6; clear h6))
          go_roundw
          case rel => exact ⟨k + 1, _, _, v6, by omega, by go_num, HNX.out, H6.out⟩
          case measure => simp [intOf]; omega
    · have hd : ¬ ((k : Int) < (n : Int)) := by omega
      obtain rfl : k = n := by omega
      have HLV := Nu.hid (leave_any (-1) (k : Int) hs hBl hrg (by omega))
      have HSD := Nu.hid hsd
      have HTE : Hid ((Df.leave (-1) (k : Int) W B).2 = Df.ends k W B) := rfl
      clear hs hsd hrg hBl hWl
      go_wp2_with (go_at_call 64; refine HLV.out.mono ?_; rintro e w5 ⟨rfl, v5, h5⟩; have H5 := Nu.hid h5; clear h5)
      go_ret
      exact .inl ⟨gb, W, B, rfl, HSD.out, H5.out.rd, H5.out.ip, H5.out.ib⟩
end

end Go.Proofs.Ytponmjipbcmlhaa
