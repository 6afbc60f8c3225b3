import Derived.Test.YtmgoahbloppdmaaGreatMg16
import Derived.Deep.RegionHeld3
import Derived.Test.YtmgoahbloppdmaaGreatMg12
import Derived.Test.YtmgoahbloppdmaaGreatMg01
/-
  The iterator over the half-edges by which edges are walked from a vertex.
-/
namespace Go.Proofs.YtmgoahbloppdmaaGreat
open Go.RowKit Go.Shelf

attribute [local go_sem] Oper.semAt_some

namespace Lo
/-- Is the half-edge the one by which its edge is walked? -/
def wb (s : Df.St) (h : Int) : Bool := decide (Df.at_ s.ori (h.toNat / 2) = h)
/-- Those that leave v. -/
def frL (n : Nat) (es : List (Int × Int)) (s : Df.St) (v : Nat) : List Int := (Cs.outZ n es v).filter (wb s)
end Lo

theorem mem_outZ {n : Nat} {es : List (Int × Int)} {v : Nat} (hv : v < n) {x : Int} : x ∈ Cs.outZ n es v ↔ ∃ i : Nat, x = (i : Int) ∧ i < 2 * es.length ∧ Cs.fr es i = v := by
  unfold Cs.outZ
  rw [Cs.outI_in hv, List.mem_map]
  constructor
  · rintro ⟨i, hi, rfl⟩
    obtain ⟨j, hj⟩ := List.getElem?_of_mem hi
    obtain ⟨h1, h2, _⟩ := Cs.out_of hj
    exact ⟨i, rfl, h1, h2⟩
  · rintro ⟨i, rfl, h1, h2⟩
    exact ⟨i, List.mem_of_getElem? (Cs.out_at h1 h2), rfl⟩

theorem filter_pre {α : Type} (q : α → Bool) {pre zs : List α} (h : pre <+: zs) : pre.filter q <+: zs.filter q := h.filter q

theorem filter_snoc {α : Type} (q : α → Bool) (pre : List α) (x : α) : (pre ++ [x]).filter q = if q x = true then pre.filter q ++ [x] else pre.filter q := by
  rw [List.filter_append]
  by_cases h : q x = true
  · rw [if_pos h, List.filter_cons_of_pos h]; rfl
  · rw [if_neg h, List.filter_cons_of_neg h]; simp

theorem ownFrom_up {β : Type} {B B' : Nat} {J : β → World → Prop} (h : OwnFrom B J) (hB : B ≤ B') : OwnFrom B' J := fun s X Y row hs hg hr => h s X Y row hs hg (fun r e => ⟨Nat.le_trans hB (hr r e).1, (hr r e).2⟩)

/-- What is only made abides in whatever abides turns. -/
theorem own_later {β : Type} {B : Nat} {J : β → World → Prop} (h : OwnFrom B J) {t : β} {X Y : World} (hs : J t X) (hb : Below X.heap.size X Y) : J t Y :=
  h t X Y none hs ⟨hb.os, hb.tape, hb.output, hb.size, fun k hk _ => hb.block k hk⟩ (fun r e => by cases e)

def ItPost8 (n : Nat) (es : List (Int × Int)) (x : Int) (w0 w : World) (e : Ending) (w' : World) : Prop :=
  ∃ Bs ao cap, e = .returned (.func (.func 76) #[] #[.pointer (some ⟨Bs, 0, none⟩)]) ∧ Bs = w.heap.size ∧ Boxed w' Bs 25 (.slice ao (Cs.outZ n es x).length cap) ∧ IntsAt w0 ao (Cs.outZ n es x) ∧ Below w.heap.size w w'

set_option maxRecDepth 100000 in
set_option maxHeartbeats 2000000 in
theorem citer8_any (v : Value) (n : Nat) (es : List (Int × Int)) (x : Int) (w0 w : World) (h : IsAdj w0 v n es) (hb : Below w0.heap.size w0 w) : Calls Tryz.prog 59 #[v, .int .i64 x] w (ItPost8 n es x w0 w) := by
  have HL := Nu.hid (leaving_any v n es x w0 w h hb)
  clear h hb
  go_enter Tryz.func59, Tryz.ntmps59
  go_wp2_with (go_at_call 75; refine HL.out.mono ?_; rintro e w1 ⟨ao, cap, rfl, hi, k, hw⟩; have HI := Nu.hid hi; have HW := Nu.hid hw; clear hi hw)
  go_ret
  have hw := HW.out
  have hi := HI.out
  subst hw
  exact ⟨w.heap.size, ao, cap, rfl, rfl, Boxed.new (w.drewN k) _ _, hi, (below_drewN (Below.refl _ _) k).alloc (Nat.le_refl _) _⟩

set_option maxRecDepth 100000 in
set_option maxHeartbeats 4000000 in
theorem from_it {p : Nat} {av : Value} {n : Nat} {es : List (Int × Int)} {f : For} {s : Df.St} (v Bw Bv : Nat) (S : Nat → Prop) (w0 w : World) (hd : Wd w0 p av n es f s) (hb : Below w0.heap.size w0 w) (hv : v < n)
    (bw : Boxed w Bw 54 (.pointer (some ⟨p, 0, none⟩))) (bv : Boxed w Bv 3 (.int .i64 (v : Int))) (hSw : ¬ S Bw) (hS : ∀ b, S b → b < w.heap.size ∨ w.heap.size + 4 ≤ b) :
    SeqIt Tryz.prog 58 #[.pointer (some ⟨Bw, 0, none⟩), .pointer (some ⟨Bv, 0, none⟩)] enc1 w0.heap.size S (Lo.frL n es s v) w 2 := by
  intro l J Jx W hW hW2 hJ hJx hY h0
  have hWd : ∀ X, Below w0.heap.size w0 X → Wd X p av n es f s := fun X hX => hd.later hX
  have hzl : (Cs.outZ n es v).length ≤ 8388608 := by
    rw [Cs.outZ_len]
    have := Cs.outI_len_le (n := n) (es := es) (v := (v : Int))
    have := hd.val.few
    omega
  have hbW : Below w0.heap.size w0 W := hb.trans (hW.mono hb.size)
  have hbwW : Boxed W Bw 54 (.pointer (some ⟨p, 0, none⟩)) := (hW.block Bw bw.lt).trans bw
  have hbvW : Boxed W Bv 3 (.int .i64 (v : Int)) := (hW.block Bv bv.lt).trans bv
  have hSW : ∀ b, S b → b < W.heap.size ∨ W.heap.size + 2 ≤ b := fun b hs => by
    have h1 := hS b hs
    have h2 := hW.size
    omega
  have hw0W : w0.heap.size ≤ W.heap.size := hbW.size
  obtain ⟨Y, hYe⟩ : ∃ Y, Y = W.alloc (.cells #[.func (.yield l) #[] #[]] 81) := ⟨_, rfl⟩
  have hY1 : Below W.heap.size W Y := by rw [hYe]; exact (Below.refl _ _).alloc (Nat.le_refl _) _
  have byY : Boxed Y W.heap.size 81 (.func (.yield l) #[] #[]) := by rw [hYe]; exact Boxed.new _ _ _
  have hYsz : Y.heap.size = W.heap.size + 1 := by rw [hYe]; simp
  have bwY : Boxed Y Bw 54 (.pointer (some ⟨p, 0, none⟩)) := (hY1.block Bw hbwW.lt).trans hbwW
  have bvY : Boxed Y Bv 3 (.int .i64 (v : Int)) := (hY1.block Bv hbvW.lt).trans hbvW
  have hbY : Below w0.heap.size w0 Y := hbW.trans (hY1.mono hw0W)
  have HIT : Hid (∀ X, Below Y.heap.size Y X → Calls Tryz.prog 59 #[av, .int .i64 (v : Int)] X (ItPost8 n es (v : Int) w0 X)) := fun X hX => citer8_any av n es (v : Int) w0 X hd.adj (hbY.trans (hX.mono hbY.size))
  have HS : Hid (∀ X, Below Y.heap.size Y X → (X.cell? ⟨Bw, 0, none⟩ = some (.pointer (some ⟨p, 0, none⟩)) ∧ X.cell? ⟨Bv, 0, none⟩ = some (.int .i64 (v : Int)) ∧ X.cell? ⟨p, 0, none⟩ = some av ∧ Below Y.heap.size Y X)) := fun X hX =>
    ⟨Boxed.cell ((hX.block Bw bwY.lt).trans bwY), Boxed.cell ((hX.block Bv bvY.lt).trans bvY), (hWd X (hbY.trans (hX.mono hbY.size))).c0, hX⟩
  have hbd : Below Y.heap.size Y Y.drew := (Below.refl _ _).drew
  have HYE := Nu.hid hYe
  have hadj0 := hd.adj
  have hval := hd.val
  have hvf := hd.vf
  refine (callsIn_wide (n := 9)).1 ?_
  refine callsIn_of_wp_marks Tryz.func58 rfl trivial ?_ rfl
  simp only [Tryz.ntmps58, List.size_toArray, List.length_cons, List.length_nil, Nat.reduceAdd, Nat.reduceSub, Array.replicate_succ, Array.replicate_zero, List.push_toArray, List.append_toArray, List.nil_append, List.cons_append]
  refine wpIn_wide.2 ?_
  clear hYe
  go_wp2_with fail
  rw [← HYE.out]
  go_region_held3 (fun X => X.cell? ⟨Bw, 0, none⟩ = some (.pointer (some ⟨p, 0, none⟩)) ∧ X.cell? ⟨Bv, 0, none⟩ = some (.int .i64 (v : Int)) ∧ X.cell? ⟨p, 0, none⟩ = some av ∧ Below Y.heap.size Y X)
    (exact HS.out _ (by first | assumption | exact hbd))
    ((go_at_call 59; refine (HIT.out _ (by first | assumption | exact hbd)).mono ?_; rintro e w1 ⟨Bs, ao, cap, rfl, hBs, hbox, hints, hb1⟩; have HBS : Hid (Bs = Y.heap.size) := hBs; clear hBs; have hb2 : Below Y.heap.size Y w1 := Below.trans (by first | assumption | exact hbd) (hb1.mono (Below.size (by first | assumption | exact hbd)))))
  all_goals
    clear HIT HS hbd HYE hadj0 hW bw bv hS hb
    go_wp2
    refine (wpIn_wide (n := 9)).1 ?_
    have hBs := HBS.out
    have hYw1 : Y.heap.size ≤ w1.heap.size := hb2.size
    have hbw1 : Below w0.heap.size w0 w1 := hbY.trans (hb2.mono hbY.size)
    have hW1 : Below W.heap.size W w1 := hY1.trans (hb2.mono (by omega))
    have by1 : Boxed w1 W.heap.size 81 (.func (.yield l) #[] #[]) := (hb2.block _ byY.lt).trans byY
    have bw1 : Boxed w1 Bw 54 (.pointer (some ⟨p, 0, none⟩)) := (hb2.block _ bwY.lt).trans bwY
    have hSs : ¬ S Bs := fun hs => by
      have h1 := hSW Bs hs
      have h2 := hBs
      omega
    have hSy : ¬ S W.heap.size := fun hs => by
      have := hSW _ hs
      omega
    have hund : IntsUnder w0.heap.size w1 ao (Cs.outZ n es v) := hints.under hbw1
    have hJ1 : OwnFrom w1.heap.size J := ownFrom_up hJ (by omega)
    have hJx1 : OwnFrom w1.heap.size Jx := ownFrom_up hJx (by omega)
    clear hBs
    refine it_out (n := 9) (gf := 76) (lb := #[.pointer (some ⟨Bs, 0, none⟩)]) (by rfl) (enters_of Tryz.func76 (by kernel_rfl) rfl)
      (out_it Bs w0.heap.size cap S ao (Cs.outZ n es v) hzl w1 (by omega) hSs hbox hund) (by omega) (fun _ => rfl)
      (fun pre A => J (pre.filter (Lo.wb s)) A ∧ Kep w0.heap.size S w1 A) (fun c pre A => c = .ret ∧ Jx (pre.filter (Lo.wb s)) A)
      (OwnFrom.and (fun pre X Z row hs hg hr => hJ1 (pre.filter (Lo.wb s)) X Z row hs hg hr) (Kep.own (by omega) (by omega)))
      (fun c pre X Z row hs hg hr => ⟨hs.1, hJx1 (pre.filter (Lo.wb s)) X Z row hs.2 hg hr⟩)
      ⟨own_later hJ h0 hW1, Kep.refl _ _ _⟩
      (fun x a' _ => a' = { tmps := #[.func (.yield l) #[] #[], .pointer (some ⟨Bw, 0, none⟩), .pointer (some ⟨Bv, 0, none⟩), .pointer (some ⟨W.heap.size, 0, none⟩), .int .i64 x, .pointer (some ⟨p, 0, none⟩), .pointer (some ⟨p, 0, none⟩), .pointer (some ⟨p, 0, none⟩), av, .int .i64 (v : Int),
        .func (.func 76) #[] #[.pointer (some ⟨Bs, 0, none⟩)], .int .i64 x, undef, undef, undef, undef, undef, undef, undef, undef, undef, undef, undef, undef, undef, undef, undef, undef, undef], defers := [] })
      (fun x a' => ownFrom_pure _ _) ?assign ?body ?done ?stop
    case assign =>
      intro l2 pre x A K _ hi hK
      gi_wp2
      exact hK _ _ (KeepsFrom.refl _ _) (Kep.refl _ _ _) hi rfl
    case body =>
      rintro l2 pre x a' A ⟨hl2, -⟩ _ hpx ⟨hJp, hkp⟩ rfl
      obtain ⟨i, rfl, hi, hfr⟩ := (mem_outZ hv).1 (hpx.subset (List.mem_append_right pre (List.mem_singleton.2 rfl)))
      have hA := hWd A (hbw1.trans hkp.1)
      obtain ⟨b4, o4, e4, d4⟩ := hA.ori (v := i / 2) (by omega)
      have c4 := hA.c4
      rw [e4] at c4
      have d4i := d4 A (Below.refl _ _) (i / 2) (by omega)
      have cw := hkp.cell bw1.cell hSw
      have cy := hkp.cell by1.cell hSy
      have hsz : w1.heap.size ≤ A.heap.size := hkp.1.size
      have i0 : (0 : Int) ≤ (i : Int) := by omega
      obtain ⟨jh, hjh⟩ : ∃ jh, i / 2 = jh := ⟨_, rfl⟩
      have htd : (i : Int).tdiv 2 = (jh : Int) := by rw [Int.tdiv_eq_ediv_of_nonneg i0]; omega
      have htd2 : (i : Int) / 2 = (jh : Int) := by omega
      have j0 : (0 : Int) ≤ (jh : Int) := by omega
      have j1 : (jh : Int) < (es.length : Int) := by omega
      have hfew := hval.few
      have hwb : Lo.wb s (i : Int) = decide (Df.at_ s.ori (i / 2) = (i : Int)) := rfl
      obtain ⟨z, hz⟩ : ∃ z, Df.at_ s.ori (i / 2) = z := ⟨_, rfl⟩
      rw [hz] at d4i hwb
      rw [hjh] at d4i
      have HWB := Nu.hid hwb
      have HKP := Nu.hid hkp
      by_cases hzi : z = (i : Int)
      · subst hzi
        have hw1 : Lo.wb s (i : Int) = true := hwb.trans (decide_eq_true rfl)
        have hpf : (pre.filter (Lo.wb s)) ++ [(i : Int)] <+: Lo.frL n es s v := by
          have := filter_pre (Lo.wb s) hpx
          rw [filter_snoc, if_pos hw1] at this
          exact this
        have HF : Hid ((pre ++ [(i : Int)]).filter (Lo.wb s) = pre.filter (Lo.wb s) ++ [(i : Int)]) := by
          show _ = _
          rw [filter_snoc, if_pos hw1]
        obtain ⟨fn, tmps, assign, body, hy, hR⟩ := hY (pre.filter (Lo.wb s)) (i : Int) A hpf hJp (by have := hbox.lt; have h2 := HBS.out; omega) 6
        have HSZ : Hid (W.heap.size ≤ w1.heap.size) := by show _ ≤ _; omega
        clear hwb hkp hY hpx hJp hpf hw1 hz d4 hA hWd hJ1 hJx1 hund hSs hSy hSW hfr
        gi_wp2
        refine hR.mono ?_
        rintro e W3 ⟨hkf, (⟨rfl, hJ3, hk3⟩ | ⟨rfl, hJx3⟩)⟩
        · have HKF := Nu.hid hkf
          have HJ3 := Nu.hid hJ3
          have HK3 := Nu.hid hk3
          clear hkf hJ3 hk3
          gi_wp2
          exact ⟨kf_mono HKF.out HSZ.out, HK3.out, by rw [HF.out]; exact HJ3.out, HKP.out.trans HK3.out⟩
        · have HKF := Nu.hid hkf
          have HJ3 := Nu.hid hJx3
          clear hkf hJx3
          gi_wp2
          exact ⟨kf_mono HKF.out HSZ.out, rfl, by rw [HF.out]; exact HJ3.out⟩
      · have hw0 : Lo.wb s (i : Int) = false := hwb.trans (decide_eq_false hzi)
        have HF : Hid ((pre ++ [(i : Int)]).filter (Lo.wb s) = pre.filter (Lo.wb s)) := by
          show _ = _
          rw [filter_snoc, if_neg (by rw [hw0]; decide)]
        have HJ := Nu.hid hJp
        clear hwb hkp hY hpx hJp hw0 hz d4 hA hWd hJ1 hJx1 hund hSs hSy hSW hfr
        gi_wp2
        refine ⟨fun _ h => (by cases h), ?_⟩
        gi_wp2
        exact ⟨KeepsFrom.refl _ _, Kep.refl _ _ _, by rw [HF.out]; exact HJ.out, HKP.out⟩
    case done =>
      rintro D A hD ⟨hJz, hkz⟩ hK
      gi_wp2
      refine ⟨by simp, .inl ⟨_, _, rfl, run_takeDeferred hK, ?_⟩⟩
      exact ⟨_, results_none rfl _ _ _, ⟨_, rfl⟩, .inl (hJ.putObj _ hJz (by omega) hK rfl)⟩
    case stop =>
      rintro D c pre A hD hpre ⟨rfl, hJz⟩ hK
      gi_wp2
      refine ⟨by simp, .inl ⟨_, _, rfl, run_takeDeferred hK, ?_⟩⟩
      exact ⟨_, results_none rfl _ _ _, ⟨_, rfl⟩, .inr ⟨_, filter_pre _ hpre, hJx.putObj _ hJz (by omega) hK rfl⟩⟩

end Go.Proofs.YtmgoahbloppdmaaGreat

/-
  The two lowest heights: what the program's twoLowest keeps.
-/
namespace Go.Proofs.YtmgoahbloppdmaaGreat
open Go.RowKit

namespace Lo
/-- One height more. -/
def two1 (p : Int × Int) (h : Int) : Int × Int := if h < p.1 then (h, p.1) else if p.1 < h ∧ h < p.2 then (p.1, h) else p
def twos (p : Int × Int) (hs : List Int) : Int × Int := hs.foldl two1 p

/-- p is the least of m and X, and the least of m and those that are greater. -/
def IsTwo (m : Int) (X : List Int) (p : Int × Int) : Prop := p.1 = least m X ∧ p.2 = least m (X.filter fun x => decide (p.1 < x))

theorem least_same {m : Int} {X Y : List Int} (h : ∀ x, x ∈ X ↔ x ∈ Y) : least m X = least m Y := by
  have h1 := least_le m X
  have h2 := least_le m Y
  rcases least_mem m X with e1 | e1 <;> rcases least_mem m Y with e2 | e2
  · omega
  · have := h1.2 _ ((h _).2 e2); have := h2.1; omega
  · have := h2.2 _ ((h _).1 e1); have := h1.1; omega
  · have := h1.2 _ ((h _).2 e2); have := h2.2 _ ((h _).1 e1); omega

theorem IsTwo.start (m : Int) : IsTwo m [] (m, m) := ⟨rfl, rfl⟩

theorem IsTwo.more {m : Int} {X : List Int} {p : Int × Int} (h : IsTwo m X p) (x : Int) : IsTwo m (X ++ [x]) (two1 p x) := by
  obtain ⟨a, b⟩ := p
  obtain ⟨h1, h2⟩ := h
  dsimp only at h1 h2
  have l1 := least_le m X
  have ha : ∀ y ∈ X, a ≤ y := fun y hy => by rw [h1]; exact l1.2 y hy
  have hm : a ≤ m := by rw [h1]; exact l1.1
  have hbm : b ≤ m := by rw [h2]; exact (least_le m _).1
  unfold two1
  dsimp only
  by_cases c1 : x < a
  · rw [if_pos c1]
    refine ⟨?_, ?_⟩
    · dsimp only
      rw [least_snoc, ← h1]
      omega
    · dsimp only
      rw [h1]
      refine least_same fun y => ?_
      rw [List.mem_filter, List.mem_append, List.mem_singleton, decide_eq_true_iff]
      constructor
      · exact fun hy => ⟨.inl hy, by have := ha y hy; omega⟩
      · rintro ⟨hy | hy, hlt⟩
        · exact hy
        · omega
  · rw [if_neg c1]
    by_cases c2 : a < x ∧ x < b
    · rw [if_pos c2]
      refine ⟨?_, ?_⟩
      · dsimp only
        rw [least_snoc, ← h1]
        omega
      · dsimp only
        rw [List.filter_append, List.filter_cons_of_pos (by simpa using c2.1)]
        show x = least m (_ ++ [x])
        rw [least_snoc, ← h2]
        omega
    · rw [if_neg c2]
      refine ⟨?_, ?_⟩
      · dsimp only
        rw [least_snoc, ← h1]
        omega
      · dsimp only
        rw [List.filter_append]
        by_cases c3 : a < x
        · rw [List.filter_cons_of_pos (by simpa using c3)]
          show b = least m (_ ++ [x])
          rw [least_snoc, ← h2]
          omega
        · rw [List.filter_cons_of_neg (by simpa using c3), List.filter_nil, List.append_nil]
          exact h2

theorem IsTwo.many {m : Int} : ∀ (Y X : List Int) (p : Int × Int), IsTwo m X p → IsTwo m (X ++ Y) (twos p Y)
  | [], X, p, h => by rw [List.append_nil]; exact h
  | y :: Y, X, p, h => by
    have := IsTwo.many Y (X ++ [y]) (two1 p y) (h.more y)
    rw [List.append_assoc] at this
    exact this

theorem twos_snoc (p : Int × Int) (l : List Int) (x : Int) : twos p (l ++ [x]) = two1 (twos p l) x := by
  unfold twos
  rw [List.foldl_append]
  rfl
end Lo

/-- What keep answers, and what it has kept. -/
def KeepPost (Bl B2 : Nat) (p : Int × Int) (w : World) (e : Ending) (w' : World) : Prop :=
  e = .returned (.tuple #[.int .i64 p.1, .int .i64 p.2]) ∧ Boxed w' Bl 3 (.int .i64 p.1) ∧ Boxed w' B2 3 (.int .i64 p.2) ∧ Wrote (fun k => k = Bl ∨ k = B2) w w'

set_option maxRecDepth 100000 in
set_option maxHeartbeats 4000000 in
theorem keep_any (Bl B2 : Nat) (p : Int × Int) (ao : Option Addr) (c : Nat) (hs : List Int) (w : World) (hne : Bl ≠ B2) (b1 : Boxed w Bl 3 (.int .i64 p.1)) (b2 : Boxed w B2 3 (.int .i64 p.2)) (hl : hs.length ≤ 8388608)
    (hc : ∀ V, Wrote (fun k => k = Bl ∨ k = B2) w V → IntsAt V ao hs) :
    Calls Tryz.prog 77 #[.slice ao hs.length c, .pointer (some ⟨Bl, 0, none⟩), .pointer (some ⟨B2, 0, none⟩)] w (KeepPost Bl B2 (Lo.twos p hs) w) := by
  have HC := Nu.hid hc
  have HB1 := Nu.hid b1
  have HB2 := Nu.hid b2
  clear hc b1 b2
  go_enter Tryz.func77, Tryz.ntmps77
  go_wp2
  go_loopw [10] (fun i wr => ∃ k : Nat, k ≤ hs.length ∧ i = .int .i64 k ∧ Boxed wr Bl 3 (.int .i64 (Lo.twos p (hs.take k)).1) ∧ Boxed wr B2 3 (.int .i64 (Lo.twos p (hs.take k)).2) ∧ Wrote (fun k => k = Bl ∨ k = B2) w wr) (fun i _ => hs.length - (intOf i).toNat)
  case atStart => exact ⟨0, Nat.zero_le _, rfl, HB1.out, HB2.out, Wrote.refl _ _⟩
  case round =>
    obtain ⟨k, hk, rfl, hb1, hb2, hw⟩ := hrel
    have x1 := hb1.cell
    have x2 := hb2.cell
    have f1 := hb1.frozen
    have f2 := hb2.frozen
    by_cases hlt : k < hs.length
    · obtain ⟨z, hz⟩ : ∃ z, hs[k]? = some z := ⟨_, List.getElem?_eq_getElem hlt⟩
      obtain ⟨b, o, rfl, hcz⟩ := HC.out wr hw k z hz
      have HSN : Hid (Lo.twos p (hs.take (k + 1)) = Lo.two1 (Lo.twos p (hs.take k)) z) := by
        show _ = _
        rw [List.take_add_one, hz]
        exact Lo.twos_snoc _ _ _
      obtain ⟨q, hq⟩ : ∃ q, Lo.twos p (hs.take k) = q := ⟨_, rfl⟩
      obtain ⟨a, b'⟩ := q
      rw [hq] at HSN x1 x2 hb1 hb2
      dsimp only at x1 x2 hb1 hb2
      have k0 : (0 : Int) ≤ (k : Int) := by omega
      have k1 : (k : Int) < (hs.length : Int) := by omega
      have HW := Nu.hid hw
      have HH1 := Nu.hid hb1
      have HH2 := Nu.hid hb2
      clear hw hz hq hb1 hb2
      by_cases c1 : z < a
      · have HT : Hid (Lo.two1 (a, b') z = (z, a)) := by
          show _ = _
          unfold Lo.two1
          rw [if_pos c1]
        go_wp2
        go_roundw
        case rel =>
          refine ⟨k + 1, by omega, by go_num, ?_, ?_, (HW.out.setCell (.inl rfl) _).setCell (.inr rfl) _⟩
          · rw [HSN.out, HT.out]
            exact (Boxed.set _ HH1.out).other hne _
          · rw [HSN.out, HT.out]
            exact Boxed.set _ (HH2.out.other hne.symm _)
        case measure => simp [intOf]; omega
      · by_cases c2 : a < z
        · by_cases c3 : z < b'
          · have HT : Hid (Lo.two1 (a, b') z = (a, z)) := by
              show _ = _
              unfold Lo.two1
              rw [if_neg c1, if_pos ⟨c2, c3⟩]
            go_wp2
            go_roundw
            case rel =>
              refine ⟨k + 1, by omega, by go_num, ?_, ?_, HW.out.setCell (.inr rfl) _⟩
              · rw [HSN.out, HT.out]
                exact HH1.out.other hne _
              · rw [HSN.out, HT.out]
                exact Boxed.set _ HH2.out
            case measure => simp [intOf]; omega
          · have HT : Hid (Lo.two1 (a, b') z = (a, b')) := by
              show _ = _
              unfold Lo.two1
              rw [if_neg c1, if_neg (fun h => c3 h.2)]
            go_wp2
            go_roundw
            case rel => exact ⟨k + 1, by omega, by go_num, by rw [HSN.out, HT.out]; exact HH1.out, by rw [HSN.out, HT.out]; exact HH2.out, HW.out⟩
            case measure => simp [intOf]; omega
        · have HT : Hid (Lo.two1 (a, b') z = (a, b')) := by
            show _ = _
            unfold Lo.two1
            rw [if_neg c1, if_neg (fun h => c2 h.1)]
          go_wp2
          go_roundw
          case rel => exact ⟨k + 1, by omega, by go_num, by rw [HSN.out, HT.out]; exact HH1.out, by rw [HSN.out, HT.out]; exact HH2.out, HW.out⟩
          case measure => simp [intOf]; omega
    · have hd : ¬ ((k : Int) < (hs.length : Int)) := by omega
      rw [List.take_of_length_le (by omega)] at x1 x2 hb1 hb2
      have HW := Nu.hid hw
      have HH1 := Nu.hid hb1
      have HH2 := Nu.hid hb2
      clear hw hb1 hb2
      go_wp2_with fail
      go_quiet (fail)
      go_wp2
      refine bodyPost_ret (results_tmp2 rfl _ _ _) rfl ?_
      exact ⟨rfl, HH1.out, HH2.out, HW.out.drewN _⟩

end Go.Proofs.YtmgoahbloppdmaaGreat
