/-
  Proved: the closed law RotNames answers true. No condition.
-/
import Derived.Test.YtloabkgojopeaaaMg10
import Derived.Test.YtloabkgojopeaaaMg09
import Derived.Test.YtloabkgojopeaaaRoFm
import Derived.Test.YtloabkgojopeaaaRoSm
namespace Go.Proofs.Ytloabkgojopeaaa
open Go.ChangeShapes Go.WideShapes Go.ChangeAt Go.RowKit
namespace lawRN

def bad4 : List (List Int) := [[1, 2], [0, 2], [0, 1, 4], [2]]
theorem hls4 : Ro.hls Ro.es4 0 bad4 = [[0, 2], [1, 4], [3, 5, -1], [7]] := by decide
theorem checkF4 : Ro.check (4 : Int) Ro.es4 (Ro.hls Ro.es4 0 bad4) = (2, 111) := by
  unfold Ro.check
  rw [if_pos Ro.valid4, hls4]
  decide
theorem tns_yes : Ro.Tns [[1, 2, 3]] [[2, 3, 1]] := by
  refine ⟨rfl, ?_⟩
  intro j x y hx hy
  match j, hx, hy with
  | 0, hx, hy => cases hx; cases hy; exact .inr ⟨1, by decide, by decide⟩
theorem tns_no : ¬ Ro.Tns [[1, 2, 3]] [[3, 2, 1]] := by
  rintro ⟨-, h⟩
  rcases h 0 _ _ rfl rfl with ⟨h, -⟩ | ⟨k, hk, h⟩
  · cases h
  · have : k < 3 := hk
    rcases (by omega : k = 0 ∨ k = 1 ∨ k = 2) with rfl | rfl | rfl <;> revert h <;> decide
theorem tns_len : ¬ Ro.Tns [] [[]] := by
  rintro ⟨h, -⟩
  cases h

def Fr4Post (V : World) (e : Ending) (w' : World) : Prop := e = .returned (.tuple #[.slice none 0 0, .int .i64 2, .int .i64 111]) ∧ Below V.heap.size V w'
theorem fr4_any (b : Nat) (xo : Option Addr) (xc : Nat) (V : World) (he : EdgesAt V (some ⟨b, 0, none⟩) Ro.es4) (hx : RwsAt V xo bad4) :
    Calls Try.prog 11 #[.agg #[.int .i64 4, .slice (some ⟨b, 0, none⟩) 4 4], .slice xo 4 xc] V (Fr4Post V) :=
  (from_any11 4 (some ⟨b, 0, none⟩) 4 Ro.es4 xo xc bad4 V he (by decide) hx).mono (by
    rintro e w' ⟨hb, h⟩
    rw [checkF4] at h
    rcases h with ⟨-, h⟩ | ⟨h, -⟩
    · exact ⟨h, hb⟩
    · cases h)
def Ar4Post (V : World) (e : Ending) (w' : World) : Prop := ∃ xo xc, e = .returned (.tuple #[.slice xo 4 xc, .int .i64 0]) ∧ RwsAt w' xo [[2, 1], [0, 2], [1, 3, 0], [2]] ∧ Below V.heap.size V w'
theorem ar4_any (b : Nat) (xo : Option Addr) (xc : Nat) (V : World) (he : EdgesAt V (some ⟨b, 0, none⟩) Ro.es4) (hx : RwsAt V xo Ro.rot4) :
    Calls Try.prog 9 #[.agg #[.int .i64 4, .slice (some ⟨b, 0, none⟩) 4 4], .slice xo 4 xc] V (Ar4Post V) :=
  (around_any 4 (some ⟨b, 0, none⟩) 4 Ro.es4 xo xc Ro.rot4 V he (by decide) hx).mono (by
    rintro e w' ⟨hb, h⟩
    rw [Ro.check4, Ro.around4] at h
    rcases h with ⟨h, -⟩ | ⟨-, v, vs, rfl, hr⟩
    · exact absurd rfl h
    · obtain ⟨yo, yc, rfl, hy, -⟩ := hr.rws (by decide)
      exact ⟨yo, yc, rfl, hy, hb⟩)
def Mi4Post (V : World) (e : Ending) (w' : World) : Prop := ∃ xo xc, e = .returned (.slice xo 4 xc) ∧ RwsAt w' xo [[0, 2], [1, 4], [3, 6, 5], [7]] ∧ Below V.heap.size V w'
theorem mi4_any (xo : Option Addr) (xc : Nat) (V : World) (hx : RwsAt V xo Ro.rot4) :
    Calls Try.prog 13 #[.slice xo 4 xc] V (Mi4Post V) :=
  (mirror_any xo xc Ro.rot4 V hx (by decide)).mono (by
    rintro e w' ⟨v, vs, rfl, hr, hb⟩
    rw [Ro.mirror4] at hr
    obtain ⟨yo, yc, rfl, hy, -⟩ := hr.rws (by decide)
    exact ⟨yo, yc, rfl, hy, hb⟩)
/-- One list of three in block k, told in block g. -/
theorem rws_one {w : World} {g g0 n0 : Nat} {l0 : List Int} (h : w.heap[g]? = some (.cells #[.slice (some ⟨g0, 0, none⟩) n0 n0] 22 (0, 0)))
    (h0 : IntsBlk w g0 l0) (e0 : l0.length = n0) (b0 : n0 ≤ 100) : RwsAt w (some ⟨g, 0, none⟩) [l0] := by
  have c0 := cell_of_one h
  subst e0
  intro v l hl
  match v, hl with
  | 0, hl => cases hl; exact ⟨g, 0, _, _, rfl, c0, h0.lst rfl, by omega, Nat.le_refl _, by omega⟩

set_option maxRecDepth 100000 in
set_option maxHeartbeats 16000000 in
theorem walk (w : World) : Calls Try.prog 3 #[] w fun e w' => e = .returned (.bool true) ∧ Below w.heap.size w w' := by
  have HT := Nu.hid tail_any
  go_enter Try.func3, Try.ntmps3
  go_wp2_with (go_at_call 10; refine (HT.out _).mono ?_; refine Hid.out ?_)
  refine Nu.hid ?_
  rintro e w1 ⟨b1, rfl, he1, hb1⟩
  have hr0 : RwsAt w1 (some ⟨w.heap.size + 1 + 1 + 1 + 1, 0, none⟩) Ro.rot4 := by
    refine RwsAt.later ?_ hb1
    refine rws_four (alloc_at (by simp)) (lit_ints ?_) (lit_ints ?_) (lit_ints ?_) (lit_ints ?_) rfl rfl rfl rfl (by omega) (by omega) (by omega) (by omega)
    all_goals repeat (first | exact alloc_at (by simp) | refine (Below.heap_alloc _ _ _ (by first | (simp; done) | (simp; omega))).trans ?_)
  have hbw1 : Below w.heap.size w w1 := by
    refine Below.trans ?_ (hb1.mono (by first | (simp; done) | (simp; omega)))
    repeat (first | exact Below.refl _ _ | refine Below.alloc ?_ (by first | (simp; done) | (simp; omega)) _)
  have HR0 := Nu.hid hr0
  have HBW1 := Nu.hid hbw1
  have HC := Nu.hid (ar4_any b1 _ 4 w1 he1 hr0)
  generalize w.heap.size + 1 + 1 + 1 + 1 = R at *
  clear hr0 hbw1 he1 hb1
  go_wp2_with (go_at_call 9; refine HC.out.mono ?_; refine Hid.out ?_)
  refine Nu.hid ?_
  rintro e w2 ⟨ao, ac, rfl, ha2, hb2⟩
  have HA2 := Nu.hid ha2
  have HR2 := Nu.hid (HR0.out.later hb2)
  have HBW2 := Nu.hid (HBW1.out.trans (hb2.mono HBW1.out.size))
  clear HC hb2 HR0 HBW1 ha2
  go_wp2_with (go_at_call 10; refine (HT.out _).mono ?_; refine Hid.out ?_)
  refine Nu.hid ?_
  rintro e w3 ⟨b3, rfl, he3, hb3⟩
  have HE3 := Nu.hid he3
  have HA3 := Nu.hid (HA2.out.later hb3)
  have HR3 := Nu.hid (HR2.out.later hb3)
  have HBW3 := Nu.hid (HBW2.out.trans (hb3.mono HBW2.out.size))
  clear he3 hb3 HR2 HBW2 HA2
  obtain ⟨W4, hW4⟩ : ∃ W, W = ((((w3.alloc (.cells #[.int .i64 1, .int .i64 2] 3)).alloc (.cells #[.int .i64 0, .int .i64 2] 3)).alloc (.cells #[.int .i64 0, .int .i64 1, .int .i64 4] 3)).alloc (.cells #[.int .i64 2] 3)).alloc (.cells #[.slice (some ⟨w3.heap.size, 0, none⟩) 2 2, .slice (some ⟨w3.heap.size + 1, 0, none⟩) 2 2, .slice (some ⟨w3.heap.size + 1 + 1, 0, none⟩) 3 3, .slice (some ⟨w3.heap.size + 1 + 1 + 1, 0, none⟩) 1 1] 22) := ⟨_, rfl⟩
  have hb4 : Below w3.heap.size w3 W4 := by
    rw [hW4]
    repeat (first | exact Below.refl _ _ | refine Below.alloc ?_ (by first | (simp; done) | (simp; omega)) _)
  have hr4 : RwsAt W4 (some ⟨w3.heap.size + 1 + 1 + 1 + 1, 0, none⟩) bad4 := by
    rw [hW4]
    refine rws_four (alloc_at (by simp)) (lit_ints ?_) (lit_ints ?_) (lit_ints ?_) (lit_ints ?_) rfl rfl rfl rfl (by omega) (by omega) (by omega) (by omega)
    all_goals repeat (first | exact alloc_at (by simp) | refine (Below.heap_alloc _ _ _ (by first | (simp; done) | (simp; omega))).trans ?_)
  have HC4 := Nu.hid (fr4_any b3 _ 4 W4 (HE3.out.later hb4) hr4)
  have HR4 := Nu.hid (HR3.out.later hb4)
  have HA4 := Nu.hid (HA3.out.later hb4)
  have HBW4 := Nu.hid (HBW3.out.trans (hb4.mono HBW3.out.size))
  rw [hW4] at HC4
  have HW4 := Nu.hid hW4
  clear hb4 hr4 hW4 HR3 HBW3 HA3
  go_wp2_with (go_at_call 11; refine HC4.out.mono ?_; rintro e w5 ⟨rfl, hb5⟩; refine Hid.out ?_)
  refine Nu.hid ?_
  rw [← HW4.out] at hb5
  have HR5 := Nu.hid (HR4.out.later hb5)
  have HA5 := Nu.hid (HA4.out.later hb5)
  have HBW5 := Nu.hid (HBW4.out.trans (hb5.mono HBW4.out.size))
  clear hb5 HC4 HR4 HA4 HBW4 HW4 HE3
  obtain ⟨W6, hW6⟩ : ∃ W, W = ((((w5.alloc (.cells #[.int .i64 2, .int .i64 1] 3)).alloc (.cells #[.int .i64 0, .int .i64 2] 3)).alloc (.cells #[.int .i64 1, .int .i64 3, .int .i64 0] 3)).alloc (.cells #[.int .i64 2] 3)).alloc (.cells #[.slice (some ⟨w5.heap.size, 0, none⟩) 2 2, .slice (some ⟨w5.heap.size + 1, 0, none⟩) 2 2, .slice (some ⟨w5.heap.size + 1 + 1, 0, none⟩) 3 3, .slice (some ⟨w5.heap.size + 1 + 1 + 1, 0, none⟩) 1 1] 22) := ⟨_, rfl⟩
  have hb6 : Below w5.heap.size w5 W6 := by
    rw [hW6]
    repeat (first | exact Below.refl _ _ | refine Below.alloc ?_ (by first | (simp; done) | (simp; omega)) _)
  have hr6 : RwsAt W6 (some ⟨w5.heap.size + 1 + 1 + 1 + 1, 0, none⟩) [[2, 1], [0, 2], [1, 3, 0], [2]] := by
    rw [hW6]
    refine rws_four (alloc_at (by simp)) (lit_ints ?_) (lit_ints ?_) (lit_ints ?_) (lit_ints ?_) rfl rfl rfl rfl (by omega) (by omega) (by omega) (by omega)
    all_goals repeat (first | exact alloc_at (by simp) | refine (Below.heap_alloc _ _ _ (by first | (simp; done) | (simp; omega))).trans ?_)
  have HEQ := Nu.hid (equal11_any ao (some ⟨w5.heap.size + 1 + 1 + 1 + 1, 0, none⟩) ac 4 [[2, 1], [0, 2], [1, 3, 0], [2]] [[2, 1], [0, 2], [1, 3, 0], [2]] W6 (HA5.out.later hb6) hr6 (by decide))
  rw [decide_eq_true rfl, hW6] at HEQ
  have HW6 := Nu.hid hW6
  have HR6 := Nu.hid (HR5.out.later hb6)
  have HBW6 := Nu.hid (HBW5.out.trans (hb6.mono HBW5.out.size))
  clear hb6 hr6 hW6 HR5 HA5 HBW5
  go_wp2_with (go_at_call 12; refine HEQ.out.mono ?_; rintro e w7 ⟨rfl, hb7⟩; refine Hid.out ?_)
  refine Nu.hid ?_
  rw [← HW6.out] at hb7
  have HR7 := Nu.hid (HR6.out.later hb7)
  have HBW7 := Nu.hid (HBW6.out.trans (hb7.mono HBW6.out.size))
  clear hb7 HEQ HW6 HBW6 HR6
  have HMI := Nu.hid (mi4_any _ 4 w7 HR7.out)
  go_wp2_with (go_at_call 13; refine HMI.out.mono ?_; refine Hid.out ?_)
  refine Nu.hid ?_
  rintro e w8 ⟨yo, yc, rfl, hy8, hb8⟩
  have HBW8 := Nu.hid (HBW7.out.trans (hb8.mono HBW7.out.size))
  obtain ⟨W9, hW9⟩ : ∃ W, W = ((((w8.alloc (.cells #[.int .i64 0, .int .i64 2] 3)).alloc (.cells #[.int .i64 1, .int .i64 4] 3)).alloc (.cells #[.int .i64 3, .int .i64 6, .int .i64 5] 3)).alloc (.cells #[.int .i64 7] 3)).alloc (.cells #[.slice (some ⟨w8.heap.size, 0, none⟩) 2 2, .slice (some ⟨w8.heap.size + 1, 0, none⟩) 2 2, .slice (some ⟨w8.heap.size + 1 + 1, 0, none⟩) 3 3, .slice (some ⟨w8.heap.size + 1 + 1 + 1, 0, none⟩) 1 1] 22) := ⟨_, rfl⟩
  have hb9 : Below w8.heap.size w8 W9 := by
    rw [hW9]
    repeat (first | exact Below.refl _ _ | refine Below.alloc ?_ (by first | (simp; done) | (simp; omega)) _)
  have hr9 : RwsAt W9 (some ⟨w8.heap.size + 1 + 1 + 1 + 1, 0, none⟩) [[0, 2], [1, 4], [3, 6, 5], [7]] := by
    rw [hW9]
    refine rws_four (alloc_at (by simp)) (lit_ints ?_) (lit_ints ?_) (lit_ints ?_) (lit_ints ?_) rfl rfl rfl rfl (by omega) (by omega) (by omega) (by omega)
    all_goals repeat (first | exact alloc_at (by simp) | refine (Below.heap_alloc _ _ _ (by first | (simp; done) | (simp; omega))).trans ?_)
  have HEQ := Nu.hid (equal11_any yo (some ⟨w8.heap.size + 1 + 1 + 1 + 1, 0, none⟩) yc 4 [[0, 2], [1, 4], [3, 6, 5], [7]] [[0, 2], [1, 4], [3, 6, 5], [7]] W9 (hy8.later hb9) hr9 (by decide))
  rw [decide_eq_true rfl, hW9] at HEQ
  have HW9 := Nu.hid hW9
  have HBW9 := Nu.hid (HBW8.out.trans (hb9.mono HBW8.out.size))
  clear hb8 hb9 hr9 hy8 hW9 HMI HR7 HBW8 HBW7
  go_wp2_with (go_at_call 12; refine HEQ.out.mono ?_; rintro e w10 ⟨rfl, hb10⟩; refine Hid.out ?_)
  refine Nu.hid ?_
  rw [← HW9.out] at hb10
  have HBW10 := Nu.hid (HBW9.out.trans (hb10.mono HBW9.out.size))
  clear hb10 HEQ HW9 HBW9
  obtain ⟨W11, hW11⟩ : ∃ W, W = (((w10.alloc (.cells #[.int .i64 1, .int .i64 2, .int .i64 3] 3)).alloc (.cells #[.slice (some ⟨w10.heap.size, 0, none⟩) 3 3] 22)).alloc (.cells #[.int .i64 2, .int .i64 3, .int .i64 1] 3)).alloc (.cells #[.slice (some ⟨w10.heap.size + 1 + 1, 0, none⟩) 3 3] 22) := ⟨_, rfl⟩
  have hb11 : Below w10.heap.size w10 W11 := by
    rw [hW11]
    repeat (first | exact Below.refl _ _ | refine Below.alloc ?_ (by first | (simp; done) | (simp; omega)) _)
  have hr11 : RwsAt W11 (some ⟨w10.heap.size + 1, 0, none⟩) [[1, 2, 3]] := by
    rw [hW11]
    refine rws_one (g0 := w10.heap.size) (n0 := 3) ?_ (lit_ints ?_) rfl (by omega)
    all_goals repeat (first | exact alloc_at (by simp) | refine (Below.heap_alloc _ _ _ (by first | (simp; done) | (simp; omega))).trans ?_)
  have hs11 : RwsAt W11 (some ⟨w10.heap.size + 1 + 1 + 1, 0, none⟩) [[2, 3, 1]] := by
    rw [hW11]
    refine rws_one (g0 := w10.heap.size + 1 + 1) (n0 := 3) ?_ (lit_ints ?_) rfl (by omega)
    all_goals repeat (first | exact alloc_at (by simp) | refine (Below.heap_alloc _ _ _ (by first | (simp; done) | (simp; omega))).trans ?_)
  have HEQ : Hid (Calls Try.prog 14 #[.slice (some ⟨w10.heap.size + 1, 0, none⟩) 1 1, .slice (some ⟨w10.heap.size + 1 + 1 + 1, 0, none⟩) 1 1] W11 fun e w' => e = .returned (.bool true) ∧ Below W11.heap.size W11 w') :=
    (same11_any _ _ 1 1 [[1, 2, 3]] [[2, 3, 1]] W11 hr11 hs11 (by decide)).mono (by
      rintro e w' ⟨hb, ⟨h, rfl⟩ | ⟨h, rfl⟩⟩
      · exact ⟨rfl, hb⟩
      · exact absurd tns_yes h)
  rw [hW11] at HEQ
  have HW11 := Nu.hid hW11
  have HBW11 := Nu.hid (HBW10.out.trans (hb11.mono HBW10.out.size))
  clear hb11 hr11 hs11 hW11 HBW10
  go_wp2_with (go_at_call 14; refine HEQ.out.mono ?_; rintro e w12 ⟨rfl, hb12⟩; refine Hid.out ?_)
  refine Nu.hid ?_
  rw [← HW11.out] at hb12
  have HBW12 := Nu.hid (HBW11.out.trans (hb12.mono HBW11.out.size))
  clear hb12 HEQ HW11 HBW11
  obtain ⟨W13, hW13⟩ : ∃ W, W = (((w12.alloc (.cells #[.int .i64 1, .int .i64 2, .int .i64 3] 3)).alloc (.cells #[.slice (some ⟨w12.heap.size, 0, none⟩) 3 3] 22)).alloc (.cells #[.int .i64 3, .int .i64 2, .int .i64 1] 3)).alloc (.cells #[.slice (some ⟨w12.heap.size + 1 + 1, 0, none⟩) 3 3] 22) := ⟨_, rfl⟩
  have hb13 : Below w12.heap.size w12 W13 := by
    rw [hW13]
    repeat (first | exact Below.refl _ _ | refine Below.alloc ?_ (by first | (simp; done) | (simp; omega)) _)
  have hr13 : RwsAt W13 (some ⟨w12.heap.size + 1, 0, none⟩) [[1, 2, 3]] := by
    rw [hW13]
    refine rws_one (g0 := w12.heap.size) (n0 := 3) ?_ (lit_ints ?_) rfl (by omega)
    all_goals repeat (first | exact alloc_at (by simp) | refine (Below.heap_alloc _ _ _ (by first | (simp; done) | (simp; omega))).trans ?_)
  have hs13 : RwsAt W13 (some ⟨w12.heap.size + 1 + 1 + 1, 0, none⟩) [[3, 2, 1]] := by
    rw [hW13]
    refine rws_one (g0 := w12.heap.size + 1 + 1) (n0 := 3) ?_ (lit_ints ?_) rfl (by omega)
    all_goals repeat (first | exact alloc_at (by simp) | refine (Below.heap_alloc _ _ _ (by first | (simp; done) | (simp; omega))).trans ?_)
  have HEQ : Hid (Calls Try.prog 14 #[.slice (some ⟨w12.heap.size + 1, 0, none⟩) 1 1, .slice (some ⟨w12.heap.size + 1 + 1 + 1, 0, none⟩) 1 1] W13 fun e w' => e = .returned (.bool false) ∧ Below W13.heap.size W13 w') :=
    (same11_any _ _ 1 1 [[1, 2, 3]] [[3, 2, 1]] W13 hr13 hs13 (by decide)).mono (by
      rintro e w' ⟨hb, ⟨h, rfl⟩ | ⟨h, rfl⟩⟩
      · exact absurd h tns_no
      · exact ⟨rfl, hb⟩)
  rw [hW13] at HEQ
  have HW13 := Nu.hid hW13
  have HBW13 := Nu.hid (HBW12.out.trans (hb13.mono HBW12.out.size))
  clear hb13 hr13 hs13 hW13 HBW12
  go_wp2_with (go_at_call 14; refine HEQ.out.mono ?_; rintro e w14 ⟨rfl, hb14⟩; refine Hid.out ?_)
  refine Nu.hid ?_
  rw [← HW13.out] at hb14
  have HBW14 := Nu.hid (HBW13.out.trans (hb14.mono HBW13.out.size))
  clear hb14 HEQ HW13 HBW13
  go_wp2
  go_ret
  refine ⟨rfl, HBW14.out.trans (Below.mono (B := w14.heap.size) ?_ HBW14.out.size)⟩
  repeat (first | exact Below.refl _ _ | refine Below.alloc ?_ (by first | (simp; done) | (simp; omega)) _)

set_option maxRecDepth 100000 in
/-- What the walk gives, for every argument and every world. -/
theorem contract (H : Type) (enc : TypeId × Value → H) (W : World) (base : Nat) (args : Array Value) (ds gs : List (DataW H)) (before : List MemPlace)
    (hval : ∀ (j : Nat) t v, Try.f3.params[j]? = some t → args[j]? = some v → Value.okWide Try.prog W .any base t v)
    (hW : DataW.Whole enc Try.prog Try.f3.params.toList Rows.rotNamesSpec.vars false W args.toList ds gs before)
    (hsz : (DataW.weightsEach Try.prog (Try.f3.params.toList ++ (OpenSpec.ofChange Rows.rotNamesSpec).bare.plain.varTypes Try.prog) (ds ++ gs)).all (· ≤ reachBytes) = true)
    :
    Calls Try.prog 3 args W fun e W' => ∃ v, e = .returned v ∧ Rows.rotNamesSpec.post enc Try.prog Try.f3 false true false false W args v W' := by
  have hW' := hW
  obtain ⟨p, q, hA0, hV, rfl, hfz, hnd⟩ := hW
  have hA : DataW.TrodAll enc Try.prog W 0 (fun _ => true) true Try.f3.params.toList args.toList ds p := hA0
  rw [Try.params3] at hA hval hsz
  obtain ⟨hargs, rfl, rfl⟩ := trodAll_nil hA
  obtain rfl : args = #[] := by cases args; simp_all
  obtain ⟨rfl, rfl⟩ := trodVars_none hV
  clear hA0
  refine (walk  W ).mono fun e W' ⟨he, bel⟩ => ?_
  subst he
  exact ⟨_, rfl, _, _, _, [], _, [], hW', trodAll_mk1 (shut_bool Try.underlying4 _), trodAll_mk0, rfl, bel.frame _, fun h => by cases h⟩

theorem laid_met (os : Os) : laidMet Try.prog Rows.rotNamesRow.laid ((settled os).forCall (fun _ _ => 0) ⟨#[], #[], []⟩).memory :=
  laidMet_of_run' 100 (by kernel_rfl) (by kernel_rfl)
theorem reads (os : Os) {H : Type} (enc : TypeId × Value → H) : ∃ places, DataW.whole enc Try.prog ((settled os).forCall (fun _ _ => 0) ⟨#[], #[], []⟩).memory Try.f3.params.toList Rows.rotNamesSpec.vars false (#[] : Array Value).toList 8 = some ([], [], places) :=
  ⟨[], by kernel_rfl⟩

set_option maxRecDepth 100000 in
theorem lifted (os : Os) (started : os.Started) (H : Type) (enc : TypeId × Value → H) (F : Stop.Interp) :
    ReturnsInHanded {} Try.checked os 3 .any ((OpenSpec.ofChange Rows.rotNamesSpec).preRow enc Try.prog Try.f3 Rows.rotNamesRow.domain false Rows.rotNamesRow.laid) (((OpenSpec.ofChange Rows.rotNamesSpec).at F).post enc Try.prog Try.f3 false true false false) := by
  obtain ⟨places, hx⟩ := reads os enc
  refine returnsInHanded_of_row (C := Try.checked) (s := (OpenSpec.ofChange Rows.rotNamesSpec)) own started (by kernel_rfl) Try.func3
    (witness_row_at (enc := enc) (C := Try.checked) false (settled os) #[] rfl (by kernel_rfl) (by kernel_rfl) (by kernel_rfl)
      (OpenSpec.preRow_of_cond 8 hx (by kernel_rfl) (fun k hk => by cases hk) (by kernel_rfl) (laid_met os))) ?_
  intro W base args ds gs before hval hW _ _ hsz _ _ _
  exact contract H enc W base args ds gs before hval hW hsz 

theorem said : Rows.RotNamesSaid :=
  OpenClaim.holds_of_cond 3 Try.f3 rfl rfl rfl rfl rfl rfl rfl ⟨rfl, rfl, rfl, rfl, rfl⟩ rfl rfl rfl rfl rfl (by kernel_rfl) Try.func3 (by kernel_rfl)
    (of_decide_eq_true (by kernel_rfl)) (by unfold Func.isWrapper; first | (rw [if_pos (by decide +kernel)]; kernel_rfl) | (rw [if_neg (by decide +kernel)]; exact ⟨rfl, rfl⟩))
    (fun os started H enc _ F => by rw [OpenClaim.pre_eq_preRow]; exact lifted os started H enc F)

end lawRN

theorem rotNames_holds : Rows.RotNamesSaid := lawRN.said

#print axioms rotNames_holds
end Go.Proofs.Ytloabkgojopeaaa
