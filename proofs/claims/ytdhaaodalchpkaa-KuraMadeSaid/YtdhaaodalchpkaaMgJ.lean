import Derived.Test.YtdhaaodalchpkaaMgA
import Derived.Test.YtdhaaodalchpkaaMgI
import Derived.Test.YtdhaaodalchpkaaMgB
import Derived.Test.YtdhaaodalchpkaaSiValid
import Derived.Test.YtdhaaodalchpkaaKin
import Derived.BigRegion
import Derived.Lib.SliceRun
/-
  An Adj in memory.
-/
namespace Go.Proofs.Ytdhaaodalchpkaa
open Go.RowKit

/-- A slice that is the whole of a block. -/
abbrev sl (g n : Nat) : Value := .slice (some ⟨g, 0, none⟩) n n

/-- Block p is an Adj over these blocks. -/
def AdjBlk (w : World) (p gd gs gh gp gt n M : Nat) : Prop := w.heap[p]? = some (.cells #[sl gd n, sl gs n, sl gh M, sl gp M, sl gt M] 84 (0, 0))

section
variable {w w' : World} {p gd gs gh gp gt n M : Nat}
theorem AdjBlk.lt (h : AdjBlk w p gd gs gh gp gt n M) : p < w.heap.size := lt_of_block h
theorem AdjBlk.later (h : AdjBlk w p gd gs gh gp gt n M) (hb : Below w.heap.size w w') : AdjBlk w' p gd gs gh gp gt n M := (hb.block p h.lt).trans h
theorem AdjBlk.other (h : AdjBlk w p gd gs gh gp gt n M) {b i : Nat} (hb : p ≠ b) (x : Value) : AdjBlk (w.setCell ⟨b, i, none⟩ x) p gd gs gh gp gt n M := (heap_setCell_other w ⟨b, i, none⟩ p x hb).trans h
theorem AdjBlk.wrote {S : Nat → Prop} (h : AdjBlk w p gd gs gh gp gt n M) (hw : Wrote S w w') (hp : ¬ S p) : AdjBlk w' p gd gs gh gp gt n M := (hw.block p h.lt hp).trans h
theorem AdjBlk.c0 (h : AdjBlk w p gd gs gh gp gt n M) : w.cell? ⟨p, 0, none⟩ = some (.slice (some ⟨gd, 0, none⟩) n n) := by unfold AdjBlk at h; simp [World.cell?, h]
theorem AdjBlk.c1 (h : AdjBlk w p gd gs gh gp gt n M) : w.cell? ⟨p, 1, none⟩ = some (.slice (some ⟨gs, 0, none⟩) n n) := by unfold AdjBlk at h; simp [World.cell?, h]
theorem AdjBlk.c2 (h : AdjBlk w p gd gs gh gp gt n M) : w.cell? ⟨p, 2, none⟩ = some (.slice (some ⟨gh, 0, none⟩) M M) := by unfold AdjBlk at h; simp [World.cell?, h]
theorem AdjBlk.c3 (h : AdjBlk w p gd gs gh gp gt n M) : w.cell? ⟨p, 3, none⟩ = some (.slice (some ⟨gp, 0, none⟩) M M) := by unfold AdjBlk at h; simp [World.cell?, h]
theorem AdjBlk.c4 (h : AdjBlk w p gd gs gh gp gt n M) : w.cell? ⟨p, 4, none⟩ = some (.slice (some ⟨gt, 0, none⟩) M M) := by unfold AdjBlk at h; simp [World.cell?, h]
end

end Go.Proofs.Ytdhaaodalchpkaa

/-
  How the arrays of an Adj are laid: a half-edge; the starts; all half-edges.
-/
namespace Go.Proofs.Ytdhaaodalchpkaa
open Go.RowKit

set_option maxRecDepth 100000 in
set_option maxHeartbeats 4000000 in
theorem cput_any (p gd gs gh gp gt gf cf n M : Nat) (H Pl T F : List Int) (h u v q : Nat) (w : World) (hA : AdjBlk w p gd gs gh gp gt n M) (iH : IntsIn w gh H) (iP : IntsIn w gp Pl) (iT : IntsIn w gt T) (iF : IntsIn w gf F)
    (lH : H.length = M) (lP : Pl.length = M) (lT : T.length = M) (lF : F.length = n) (hh : h < M) (hu : u < n) (hq : F[u]? = some (q : Int)) (hqM : q < M) (hM : M ≤ 8388608)
    (d2 : p ≠ gp) (d3 : p ≠ gt) (d5 : gh ≠ gp) (d6 : gh ≠ gt) (d7 : gp ≠ gt) (d8 : gf ≠ gh) (d9 : gf ≠ gp) (d10 : gf ≠ gt) :
    Calls Try.prog 56 #[.pointer (some ⟨p, 0, none⟩), .int .i64 h, .int .i64 u, .int .i64 v, .slice (some ⟨gf, 0, none⟩) n cf] w fun e w' =>
      e = .returned (.tuple #[]) ∧ IntsIn w' gh (H.set q h) ∧ IntsIn w' gp (Pl.set h q) ∧ IntsIn w' gt (T.set h v) ∧ IntsIn w' gf (F.set u ((q : Int) + 1)) ∧ Wrote (fun b => b = gh ∨ b = gp ∨ b = gt ∨ b = gf) w w' := by
  obtain ⟨w1, hw1⟩ : ∃ w1, w1 = w.setCell ⟨gt, h, none⟩ (.int .i64 v) := ⟨_, rfl⟩
  obtain ⟨w2, hw2⟩ : ∃ w2, w2 = w1.setCell ⟨gp, h, none⟩ (.int .i64 q) := ⟨_, rfl⟩
  obtain ⟨w3, hw3⟩ : ∃ w3, w3 = w2.setCell ⟨gh, q, none⟩ (.int .i64 h) := ⟨_, rfl⟩
  obtain ⟨x0, hx0⟩ : ∃ x, T[h]? = some x := ⟨_, List.getElem?_eq_getElem (by omega)⟩
  obtain ⟨x1, hx1⟩ : ∃ x, Pl[h]? = some x := ⟨_, List.getElem?_eq_getElem (by omega)⟩
  obtain ⟨x2, hx2⟩ : ∃ x, H[q]? = some x := ⟨_, List.getElem?_eq_getElem (by omega)⟩
  -- the worlds between the stores
  have A1 := hA.other (i := h) d3 (.int .i64 v)
  have H1 := iH.other (i := h) d6 (.int .i64 v)
  have P1 := iP.other (i := h) d7 (.int .i64 v)
  have T1 := iT.set (i := h) (by omega) (v : Int)
  have F1 := iF.other (i := h) d10 (.int .i64 v)
  rw [← hw1] at A1 H1 P1 T1 F1
  have A2 := A1.other (i := h) d2 (.int .i64 q)
  have H2 := H1.other (i := h) d5 (.int .i64 q)
  have P2 := P1.set (i := h) (by omega) (q : Int)
  have T2 := T1.other (i := h) (Ne.symm d7) (.int .i64 q)
  have F2 := F1.other (i := h) d9 (.int .i64 q)
  rw [← hw2] at A2 H2 P2 T2 F2
  have H3 := H2.set (i := q) (by omega) (h : Int)
  have P3 := P2.other (i := q) (Ne.symm d5) (.int .i64 h)
  have T3 := T2.other (i := q) (Ne.symm d6) (.int .i64 h)
  have F3 := F2.other (i := q) d8 (.int .i64 h)
  rw [← hw3] at H3 P3 T3 F3
  have H4 := H3.other (i := u) (Ne.symm d8) (.int .i64 ((q : Int) + 1))
  have P4 := P3.other (i := u) (Ne.symm d9) (.int .i64 ((q : Int) + 1))
  have T4 := T3.other (i := u) (Ne.symm d10) (.int .i64 ((q : Int) + 1))
  have F4 := F3.set (i := u) (by omega) ((q : Int) + 1)
  have hWr : Wrote (fun b => b = gh ∨ b = gp ∨ b = gt ∨ b = gf) w (w3.setCell ⟨gf, u, none⟩ (.int .i64 ((q : Int) + 1))) := by
    rw [hw3, hw2, hw1]
    exact ((((Wrote.refl _ w).setCell (.inr (.inr (.inl rfl))) _).setCell (.inr (.inl rfl)) _).setCell (.inl rfl) _).setCell (.inr (.inr (.inr rfl))) _
  have HEND := Nu.hid (And.intro H4 (And.intro P4 (And.intro T4 (And.intro F4 hWr))))
  have a4 := hA.c4
  have a3 := A1.c3
  have a2 := A2.c2
  have t0 := iT.cell hx0
  have tf := iT.free
  have p0 := P1.cell hx1
  have pf := P1.free
  have f1 := F1.cell hq
  have h0 := H2.cell hx2
  have hf := H2.free
  have f2 := F2.cell hq
  have f3 := F3.cell hq
  have f3f := F3.free
  have HW1 := Nu.hid hw1
  have HW2 := Nu.hid hw2
  have HW3 := Nu.hid hw3
  have s1 : w1.heap.size = w.heap.size := by rw [hw1]; simp
  have i0 : (0 : Int) ≤ (h : Int) := by omega
  have i1 : (h : Int) < (M : Int) := by omega
  have i2 : (0 : Int) ≤ (u : Int) := by omega
  have i3 : (u : Int) < (n : Int) := by omega
  have i4 : (0 : Int) ≤ (q : Int) := by omega
  have i5 : (q : Int) < (M : Int) := by omega
  clear hA iH iP iT iF A1 H1 P1 T1 F1 A2 H2 P2 T2 F2 H3 P3 T3 F3 H4 P4 T4 F4 hWr hw1 hw2 hw3 hx0 hx1 hx2 hq lH lP lT lF d2 d3 d5 d6 d7 d8 d9 d10
  go_enter Try.func56, Try.ntmps56
  go_wp2_with fail
  rw [← HW1.out]
  go_big_region
  rw [← HW2.out]
  go_wp2_with fail
  go_big_region
  rw [← HW3.out]
  go_wp2
  go_end0
  exact ⟨rfl, HEND.out.1, HEND.out.2.1, HEND.out.2.2.1, HEND.out.2.2.2.1, HEND.out.2.2.2.2.drew.drew⟩

/-- What comes in as a list of ints that lies in a block. -/
theorem row_of_ints {w : World} {g n : Nat} {S : List Int} (h : IntsIn w g S) (hl : S.length = n) (hn : n ≤ 8388608) (hw : ∀ x ∈ S, -9223372036854775808 ≤ x ∧ x ≤ 9223372036854775807) : IsRow .i64 8 w (some ⟨g, 0, none⟩) n n S := by
  refine .inr ⟨_, rfl, Nat.le_refl _, by omega, hl, fun i hi => ?_, fun x hx => WalkArith.wf_i64 (by have := hw x hx; omega)⟩
  have e : ((⟨g, 0, none⟩ : Addr).add i) = ⟨g, i, none⟩ := by
    by_cases h0 : i = 0 <;> simp [Addr.add, h0]
  rw [e]
  exact h.cell (by rw [List.getD_eq_getElem?_getD, List.getElem?_eq_getElem hi]; rfl)

set_option maxRecDepth 100000 in
set_option maxHeartbeats 4000000 in
theorem clone_any (g n : Nat) (S : List Int) (w : World) (h : IntsIn w g S) (hl : S.length = n) (hn : n ≤ 8388608) (hw : ∀ x ∈ S, -9223372036854775808 ≤ x ∧ x ≤ 9223372036854775807) :
    Calls Try.prog 55 #[.slice (some ⟨g, 0, none⟩) n n] w fun e w' => ∃ gf cf, e = .returned (.slice (some ⟨gf, 0, none⟩) n cf) ∧ w.heap.size ≤ gf ∧ IntsIn w' gf S ∧ Below w.heap.size w w' := by
  obtain ⟨i0, hi, hz0, hz1, hz2⟩ := info_parts Try.infoNum
  have hr := row_of_ints h hl hn hw
  have HR := Nu.hid hr
  have hnil := fun w => Lib.run_eql_slice_nil (P := Try.prog) w 36 3 (some ⟨g, 0, none⟩) n n 0 0 Try.underlying36
  clear hr h hw
  go_enter Try.func55, Try.ntmps55
  go_wp2_with (at_builtin; refine wpList_copy rfl _ _ 36 rfl 3 .i64 i0 8 Try.underlying36 hi hz0 hz1 hz2 (by decide) w (some ⟨g, 0, none⟩) n n S rfl rfl HR.out ?_; refine Hid.out ?_)
  refine Nu.hid ?_
  intro gb c w1 hrow hgb hlt hc hb
  have HX := Nu.hid hrow
  have HB := Nu.hid hb
  have HG := Nu.hid hgb
  clear hrow hb hgb
  go_wp2
  go_ret
  refine ⟨gb, c, rfl, HG.out, ?_, HB.out⟩
  have := HX.out
  rw [List.take_of_length_le (by simp; omega)] at this
  exact ints_in_row this

def StartsPost (es : List (Int × Int)) (n M : Nat) (w : World) (e : Ending) (w' : World) : Prop :=
  ∃ (gs : Nat) (S : List Int), e = .returned (.slice (some ⟨gs, 0, none⟩) n n) ∧ w.heap.size ≤ gs ∧ gs < w'.heap.size ∧ IntsIn w' gs S ∧ S.length = n ∧ (∀ v, v < n → S[v]? = some (Cs.st es M v : Int)) ∧ Below w.heap.size w w'

set_option maxRecDepth 100000 in
set_option maxHeartbeats 4000000 in
theorem starts_any (es : List (Int × Int)) (gd n M : Nat) (D : List Int) (w : World) (hD : IntsIn w gd D) (hl : D.length = n) (hn : n ≤ 1048576) (hM : M ≤ 8388608) (hd : ∀ v, v < n → D[v]? = some ((Cs.out es v M).length : Int)) (hf : ∀ i, i < M → Cs.fr es i < n) :
    Calls Try.prog 40 #[.slice (some ⟨gd, 0, none⟩) n n] w (StartsPost es n M w) := by
  obtain ⟨i0, hi, hz0, hz1, hz2⟩ := info_parts Try.infoNum
  have HD := Nu.hid hD
  have HDD := Nu.hid hd
  have HF := Nu.hid hf
  have hlt := hD.lt
  clear hD hd hf
  go_enter Try.func40, Try.ntmps40
  go_wp2_with (at_make; refine wpList_make_full _ rfl _ _ 36 rfl w.heap.size 3 i0 (.int .i64 0) 1 Try.underlying36 hi hz0 hz1 _ _ _ _ n rfl rfl rfl rfl (by rw [hz2]; omega) (by unfold maxLen; omega) (Nat.le_refl _) ?_; refine Hid.out ?_)
  refine Nu.hid ?_
  intro w2 hrow hg2
  rw [made_zeros] at hrow
  have hik := (ints_of_row hrow).ins
  have hb2 : Below w.heap.size w w2 := (Below.refl _ _).grown hg2 (Nat.le_refl _) (fun j hj => by cases hj)
  have HI2 := Nu.hid hik
  have HB2 := Nu.hid hb2
  clear hrow hg2 hik hb2
  go_wp2
  go_loopw [4, 11] (fun s c wr => ∃ (k : Nat) (S : List Int), k ≤ n ∧ c = .int .i64 k ∧ s = .int .i64 (Cs.st es M k) ∧ S.length = n ∧ (∀ v, v < k → S[v]? = some (Cs.st es M v : Int)) ∧ IntsIn wr w.heap.size S ∧ Below w.heap.size w wr) (fun _ c _ => n - (intOf c).toNat)
  case atStart => exact ⟨0, _, Nat.zero_le _, rfl, rfl, by simp, fun v hv => by omega, HI2.out, HB2.out⟩
  case round =>
    obtain ⟨k, S, hk, rfl, rfl, hSl, hS, hiS, hb⟩ := hrel
    have hsz := hiS.lt
    have HS := Nu.hid hS
    have HIS := Nu.hid hiS
    have HB := Nu.hid hb
    by_cases hkn : k < n
    · have hk0 : (0 : Int) ≤ (k : Int) := by omega
      have hk1 : (k : Int) < (n : Int) := by omega
      obtain ⟨x, hx⟩ : ∃ x, S[k]? = some x := ⟨_, List.getElem?_eq_getElem (by omega)⟩
      have c0 := hiS.cell hx
      have c1 := hiS.free
      have n1 := hiS.set (i := k) (by omega) (Cs.st es M k : Int)
      have HN1 := Nu.hid n1
      have d1 : (wr.setCell ⟨w.heap.size, k, none⟩ (.int .i64 (Cs.st es M k))).cell? ⟨gd, k, none⟩ = some (.int .i64 ((Cs.out es k M).length : Int)) := by
        have := (HD.out.later hb).cell (HDD.out k hkn)
        rw [← this]
        simp [World.cell?, heap_setCell_other wr ⟨w.heap.size, k, none⟩ gd _ (by simp; omega)]
      have HBN := Nu.hid (hb.setCell (p := ⟨w.heap.size, k, none⟩) (Nat.le_refl _) (.int .i64 (Cs.st es M k : Int)))
      have hle := Cs.st_le HF.out hkn
      have hst : Cs.st es M (k + 1) = Cs.st es M k + (Cs.out es k M).length := rfl
      have HST := Nu.hid hst
      have hny : ∃ y, y = (Cs.out es k M).length := ⟨_, rfl⟩
      obtain ⟨y, hy⟩ := hny
      have hnz : ∃ z, z = Cs.st es M k := ⟨_, rfl⟩
      obtain ⟨z, hz⟩ := hnz
      have HZ := Nu.hid hz.symm
      rw [← hy] at d1 hle hst HST
      rw [← hz] at d1 hle hst HST HN1 HBN n1 ⊢
      clear hS hiS hb n1 hx hst hy hz
      go_wp2
      go_roundw
      case rel =>
        refine ⟨k + 1, S.set k z, by omega, by go_num, by rw [HST.out]; go_num, by simp [hSl], fun v hv => ?_, HN1.out, HBN.out⟩
        rw [List.getElem?_set]
        by_cases e : k = v
        · subst e
          rw [if_pos rfl, if_pos (by omega), HZ.out]
        · rw [if_neg e]
          exact HS.out v (by omega)
      case measure => simp [intOf]; omega
    · have hd : ¬ ((k : Int) < (n : Int)) := by omega
      clear hS hiS hb
      go_wp2
      go_ret
      exact ⟨w.heap.size, S, rfl, Nat.le_refl _, hsz, HIS.out, hSl, fun v hv => HS.out v (by omega), HB.out⟩

def FillPost (es : List (Int × Int)) (n M gh gp gt : Nat) (w : World) (e : Ending) (w' : World) : Prop :=
  e = .returned (.tuple #[]) ∧ (∃ H Pl T F : List Int, Cs.Filled es n M M H Pl T F ∧ IntsIn w' gh H ∧ IntsIn w' gp Pl ∧ IntsIn w' gt T) ∧ Wrote (fun b => b = gh ∨ b = gp ∨ b = gt) w w'

theorem Wrote.next {S S' : Nat → Prop} {w0 w w' : World} (h : Wrote S w0 w) (k : Wrote S' w w') (hS : ∀ b, b < w0.heap.size → S' b → S b) : Wrote S w0 w' :=
  ⟨k.os.trans h.os, k.tape.trans h.tape, k.output.trans h.output, Nat.le_trans h.size k.size, fun i hi hn => (k.block i (Nat.lt_of_lt_of_le hi h.size) (fun hs => hn (hS i hi hs))).trans (h.block i hi hn)⟩

/-- k half-edges are laid. -/
def Laying (es : List (Int × Int)) (p gd gs gh gp gt gf n M k : Nat) (w : World) : Prop :=
  AdjBlk w p gd gs gh gp gt n M ∧ ∃ H Pl T F : List Int, Cs.Filled es n M k H Pl T F ∧ IntsIn w gh H ∧ IntsIn w gp Pl ∧ IntsIn w gt T ∧ IntsIn w gf F

theorem Laying.later {es : List (Int × Int)} {p gd gs gh gp gt gf n M k : Nat} {w w' : World} (h : Laying es p gd gs gh gp gt gf n M k w) (hb : Below w.heap.size w w') : Laying es p gd gs gh gp gt gf n M k w' := by
  obtain ⟨hA, H, Pl, T, F, hf, h1, h2, h3, h4⟩ := h
  exact ⟨hA.later hb, H, Pl, T, F, hf, h1.later hb, h2.later hb, h3.later hb, h4.later hb⟩

structure Parted (p gh gp gt gf : Nat) : Prop where
  d1 : p ≠ gh
  d2 : p ≠ gp
  d3 : p ≠ gt
  d4 : p ≠ gf
  d5 : gh ≠ gp
  d6 : gh ≠ gt
  d7 : gp ≠ gt
  d8 : gf ≠ gh
  d9 : gf ≠ gp
  d10 : gf ≠ gt

theorem lay_any (es : List (Int × Int)) (p gd gs gh gp gt gf cf n M k : Nat) (w : World) (hL : Laying es p gd gs gh gp gt gf n M k w) (hlt : ∀ i, i < M → Cs.fr es i < n) (hk : k < M) (hM : M ≤ 8388608) (hd : Parted p gh gp gt gf) :
    Calls Try.prog 56 #[.pointer (some ⟨p, 0, none⟩), .int .i64 k, .int .i64 (Cs.fr es k : Int), .int .i64 (Cs.to es k : Int), .slice (some ⟨gf, 0, none⟩) n cf] w fun e w' =>
      e = .returned (.tuple #[]) ∧ Laying es p gd gs gh gp gt gf n M (k + 1) w' ∧ Wrote (fun b => b = gh ∨ b = gp ∨ b = gt ∨ b = gf) w w' := by
  obtain ⟨hA, H, Pl, T, F, hf, h1, h2, h3, h4⟩ := hL
  refine (cput_any p gd gs gh gp gt gf cf n M H Pl T F k (Cs.fr es k) (Cs.to es k) (Cs.pos es M k) w hA h1 h2 h3 h4 hf.lH hf.lP hf.lT hf.lF hk (hlt k hk) (hf.at (hlt k hk)) (Cs.pos_lt hlt hk) hM hd.d2 hd.d3 hd.d5 hd.d6 hd.d7 hd.d8 hd.d9 hd.d10).mono ?_
  rintro e w' ⟨he, k1, k2, k3, k4, hw⟩
  refine ⟨he, ⟨hA.wrote hw (fun h => ?_), _, _, _, _, hf.step hlt hk, k1, k2, k3, k4⟩, hw⟩
  rcases h with h | h | h | h
  · exact hd.d1 h
  · exact hd.d2 h
  · exact hd.d3 h
  · exact hd.d4 h

set_option maxRecDepth 100000 in
set_option maxHeartbeats 8000000 in
theorem fill_any (es : List (Int × Int)) (ao : Option Addr) (cap p gd gs gh gp gt n M : Nat) (S H Pl T : List Int) (w0 w : World) (hv : Si.Val n es) (hM : M = 2 * es.length) (he : EdgesAt w0 ao es) (hb : Below w0.heap.size w0 w)
    (hA : AdjBlk w p gd gs gh gp gt n M) (iS : IntsIn w gs S) (iH : IntsIn w gh H) (iP : IntsIn w gp Pl) (iT : IntsIn w gt T) (lS : S.length = n) (hS : ∀ v, v < n → S[v]? = some (Cs.st es M v : Int)) (lH : H.length = M) (lP : Pl.length = M) (lT : T.length = M)
    (b1 : w0.heap.size ≤ gh) (b2 : w0.heap.size ≤ gp) (b3 : w0.heap.size ≤ gt) (d1 : p ≠ gh) (d2 : p ≠ gp) (d3 : p ≠ gt) (d5 : gh ≠ gp) (d6 : gh ≠ gt) (d7 : gp ≠ gt) :
    Calls Try.prog 41 #[.pointer (some ⟨p, 0, none⟩), .slice ao es.length cap] w (FillPost es n M gh gp gt w) := by
  have hfew := hv.few
  have hhi := hv.hi
  have hlt : ∀ i, i < M → Cs.fr es i < n := fun i hi => (Cs.half_lt hv (by omega)).1
  have hwf : ∀ x ∈ S, -9223372036854775808 ≤ x ∧ x ≤ 9223372036854775807 := fun x hx => by
    obtain ⟨v, hv', rfl⟩ := List.getElem_of_mem hx
    have h1 := hS v (by omega)
    rw [List.getElem?_eq_getElem hv'] at h1
    have h2 := Cs.st_le (v := v) hlt (by omega)
    have h3 := Option.some.inj h1
    omega
  have hcl := clone_any gs n S w iS lS (by omega) hwf
  have HCL := Nu.hid hcl
  have a1 := hA.c1
  have s1 := iH.lt
  have s2 := iP.lt
  have s3 := iT.lt
  have s4 := hA.lt
  have HV := Nu.hid hv
  have HLT := Nu.hid hlt
  have HE := Nu.hid he
  have HB := Nu.hid hb
  have hF0 : Cs.Filled es n M 0 H Pl T S := ⟨lH, lP, lT, lS, fun i hi => by omega, fun i hi => by omega, fun i hi => by omega, fun v hv => by rw [hS v hv]; simp [Cs.out]⟩
  have HPD : Hid (∀ gf, w.heap.size ≤ gf → Parted p gh gp gt gf) := fun gf hgf => ⟨d1, d2, d3, by omega, d5, d6, d7, by omega, by omega, by omega⟩
  have HL0 : Hid (∀ gf w2, Below w.heap.size w w2 → IntsIn w2 gf S → Laying es p gd gs gh gp gt gf n M 0 w2) := fun gf w2 hb hi => ⟨hA.later hb, H, Pl, T, S, hF0, iH.later hb, iP.later hb, iT.later hb, hi⟩
  clear hcl hv hlt he hb hA hF0 iS iH iP iT hS hwf lH lP lT lS d1 d2 d3 d5 d6 d7
  go_enter Try.func41, Try.ntmps41
  go_wp2_with (go_at_call 55; refine HCL.out.mono ?_; rintro e w2 ⟨gf, cf, rfl, hgf, hfi, hb2⟩; refine Hid.out ?_)
  refine Nu.hid ?_
  have HB2 := Nu.hid hb2
  have HL2 := Nu.hid (HL0.out gf w2 hb2 hfi)
  have HPG := Nu.hid (HPD.out gf hgf)
  have hgs := hfi.lt
  clear hb2 hfi HCL
  go_wp2
  go_loopw [14] (fun c wr => ∃ k : Nat, k ≤ es.length ∧ c = .int .i64 k ∧ Laying es p gd gs gh gp gt gf n M (2 * k) wr ∧ Wrote (fun b => b = gh ∨ b = gp ∨ b = gt) w wr) (fun c _ => es.length - (intOf c).toNat)
  case atStart => exact ⟨0, Nat.zero_le _, rfl, HL2.out, (Wrote.refl _ _).later HB2.out⟩
  case round =>
    obtain ⟨k, hk, rfl, hlay, hwr⟩ := hrel
    have HLAY := Nu.hid hlay
    have HWR := Nu.hid hwr
    by_cases hlt : k < es.length
    · have hlti : (k : Int) < (es.length : Int) := by omega
      have hk0 : (0 : Int) ≤ (k : Int) := by omega
      obtain ⟨q, hq⟩ : ∃ q, es[k]? = some q := ⟨_, List.getElem?_eq_getElem hlt⟩
      have hb3 : Below w0.heap.size w0 wr := HB.out.trans (hwr.below HB.out.size (fun b hb => by rcases hb with rfl | rfl | rfl <;> assumption))
      obtain ⟨b, o, rfl, c0, c1⟩ := (HE.out.later hb3) k q hq
      have hbl : b < wr.heap.size := block_lt_of_cell c0
      have hok := HV.out.each k q hq
      unfold Si.ok at hok
      obtain ⟨qu, qv⟩ := q
      dsimp only at c0 c1 hok
      obtain ⟨u, rfl⟩ : ∃ u : Nat, qu = (u : Int) := ⟨qu.toNat, by omega⟩
      obtain ⟨v, rfl⟩ : ∃ v : Nat, qv = (v : Int) := ⟨qv.toNat, by omega⟩
      obtain ⟨e1, e2⟩ := Cs.fr_even hq
      obtain ⟨e3, e4⟩ := Cs.fr_odd hq
      dsimp only [Int.toNat_natCast] at e1 e2 e3 e4
      have hl1 := lay_any es p gd gs gh gp gt gf cf n M (2 * k) _ (hlay.later ((Below.refl _ _).alloc (Nat.le_refl _) (.cells #[.int .i64 u, .int .i64 v] 57))) HLT.out (by omega) (by omega) HPG.out
      rw [e1, e2, show ((2 * k : Nat) : Int) = 2 * (k : Int) by omega] at hl1
      have hl2 := fun W hW => lay_any es p gd gs gh gp gt gf cf n M (2 * k + 1) W hW HLT.out (by omega) (by omega) HPG.out
      rw [e3, e4, show ((2 * k + 1 : Nat) : Int) = 2 * (k : Int) + 1 by omega] at hl2
      have HL1 := Nu.hid hl1
      have HLL2 := Nu.hid hl2
      have hnew : (wr.alloc (.cells #[.int .i64 u, .int .i64 v] 57)).heap[wr.heap.size]? = some (.cells #[.int .i64 u, .int .i64 v] 57 (0, 0)) := heap_alloc_new wr _
      have hsw := hwr.size
      have hpf := HPG.out
      have hgfl : gf < wr.heap.size := by
        obtain ⟨_, _, _, _, _, _, _, _, _, h4⟩ := hlay
        exact h4.lt
      have HNE : Hid (¬ (wr.heap.size = gh ∨ wr.heap.size = gp ∨ wr.heap.size = gt ∨ wr.heap.size = gf)) := by
        show ¬ _
        omega
      have HNEW := Nu.hid hnew
      clear hl1 hl2 hlay hwr hb3 hok hq hnew hpf
      go_wp2_with (go_at_call 56; refine HL1.out.mono ?_; rintro e w3 ⟨rfl, hlay3, hw3⟩; refine Hid.out ?_)
      refine Nu.hid ?_
      have hn3 := (hw3.block wr.heap.size (by simp) HNE.out).trans HNEW.out
      obtain ⟨x0, x1, -⟩ := pair_cells hn3
      have HLL3 := Nu.hid (HLL2.out w3 hlay3)
      have HW3 := Nu.hid (((HWR.out.alloc _).next hw3 (fun b hb h => by rcases h with h | h | h | h; exact .inl h; exact .inr (.inl h); exact .inr (.inr h); omega)))
      have hs3 := hw3.size
      have hgf3 := lt_of_block hn3
      clear hw3 hlay3 hn3 HL1 HLL2 HNEW
      go_wp2_with (go_at_call 56; refine HLL3.out.mono ?_; rintro e w4 ⟨rfl, hlay4, hw4⟩; refine Hid.out ?_)
      refine Nu.hid ?_
      have HW4 := Nu.hid (HW3.out.next hw4 (fun b hb h => by rcases h with h | h | h | h; exact .inl h; exact .inr (.inl h); exact .inr (.inr h); omega))
      have HL4 := Nu.hid hlay4
      clear hw4 hlay4 HLL3
      go_wp2
      go_roundw
      case rel => exact ⟨k + 1, by omega, by go_num, HL4.out, HW4.out⟩
      case measure => simp [intOf]; omega
    · have hd : ¬ ((k : Int) < (es.length : Int)) := by omega
      obtain rfl : k = es.length := by omega
      clear hlay hwr
      go_wp2
      go_end0
      obtain ⟨_, H1, P1, T1, F1, hf, i1, i2, i3, _⟩ := HLAY.out
      rw [hM] at hf
      exact ⟨rfl, ⟨H1, P1, T1, F1, hf, i1, i2, i3⟩, HWR.out⟩

end Go.Proofs.Ytdhaaodalchpkaa
