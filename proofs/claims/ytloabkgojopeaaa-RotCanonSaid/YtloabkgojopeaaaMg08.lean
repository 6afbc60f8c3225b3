import Derived.Test.YtloabkgojopeaaaMg02
import Derived.Deep.QuietTactic
import Derived.BigQuiet
import Derived.Test.YtloabkgojopeaaaMg01
import Derived.Test.YtloabkgojopeaaaMg04
import Derived.Test.YtloabkgojopeaaaMg05
import Derived.Test.YtloabkgojopeaaaMg07
import Derived.Deep.Matrix
import Derived.SizedLaws
/-
  The document's own Alike.
-/
namespace Go.Proofs.Ytloabkgojopeaaa
open Go.RowKit

set_option maxRecDepth 100000 in
set_option maxHeartbeats 4000000 in
theorem alike_any (ao bo : Option Addr) (ca cb n m : Nat) (l l' : List Int) (w : World) (hn : l.length = n) (hm : l'.length = m) (ha : IntsAt w ao l) (hb : IntsAt w bo l') (hl : n ≤ 4611686018427387904) :
    Calls Try.prog 21 #[.slice ao n ca, .slice bo m cb] w fun e w' => e = .returned (.bool (decide (l = l'))) ∧ Below w.heap.size w w' := by
  have HA := Nu.hid ha
  have HB := Nu.hid hb
  have HN := Nu.hid hn
  have HM := Nu.hid hm
  clear ha hb
  by_cases hll : n = m
  · have j1 : ((n : Int) != (m : Int)) = false := by simp [hll]
    have HLL := Nu.hid hll
    have hnm : (n : Int) = (m : Int) := by omega
    clear hll hn hm
    go_enter Try.func21, Try.ntmps21
    have HNM := Nu.hid hnm
    clear hnm
    go_wp2
    go_loopw [5] (fun c wr => ∃ k : Nat, k ≤ n ∧ c = .int .i64 k ∧ (∀ j, j < k → l[j]? = l'[j]?) ∧ Below w.heap.size w wr) (fun c _ => n - (intOf c).toNat)
    case atStart => exact ⟨0, Nat.zero_le _, rfl, fun j h => by omega, Below.refl _ _⟩
    case round =>
      obtain ⟨k, hk, rfl, hsame, hbw⟩ := hrel
      have HSAME := Nu.hid hsame
      have HBW := Nu.hid hbw
      clear hsame
      by_cases hlt : k < n
      · have hlti : (k : Int) < (n : Int) := by omega
        have hk0 : (0 : Int) ≤ (k : Int) := by omega
        have hlm : (k : Int) < (m : Int) := by have := HNM.out; omega
        obtain ⟨x, hx⟩ : ∃ x, l[k]? = some x := ⟨_, List.getElem?_eq_getElem (by have := HN.out; omega)⟩
        obtain ⟨y, hy⟩ : ∃ y, l'[k]? = some y := ⟨_, List.getElem?_eq_getElem (by have := HM.out; omega)⟩
        obtain ⟨b, o, rfl, c0⟩ := (HA.out.later hbw) k x hx
        obtain ⟨b', o', rfl, d0⟩ := (HB.out.later hbw) k y hy
        have hbl : b < wr.heap.size := block_lt_of_cell c0
        have hbl' : b' < wr.heap.size := block_lt_of_cell d0
        have HX := Nu.hid hx
        have HY := Nu.hid hy
        clear hx hy hbw
        by_cases e1 : x = y
        · have t1 : (x != y) = false := by simp [e1]
          have HXY := Nu.hid e1
          clear e1
          go_wp2_with fail
          go_quiet (fail)
          go_wp2
          go_roundw
          case rel =>
            refine ⟨k + 1, by omega, by go_num, fun j hj => ?_, below_drewN HBW.out _⟩
            by_cases hjk : j = k
            · subst hjk; rw [HX.out, HY.out, HXY.out]
            · exact HSAME.out j (by omega)
          case measure => simp [intOf]; omega
        · have t1 : (x != y) = true := by simp [e1]
          have hv : decide (l = l') = false := by
            simp only [decide_eq_false_iff_not]
            intro h
            rw [h, HY.out] at HX
            cases HX.out
            exact e1 rfl
          have HV := Nu.hid hv
          clear hv
          go_wp2_with fail
          go_quiet (fail)
          go_wp2
          go_ret
          exact ⟨by rw [HV.out]; rfl, below_drewN HBW.out _⟩
      · have hd : ¬ ((k : Int) < (n : Int)) := by omega
        have hv : decide (l = l') = true := by
          simp only [decide_eq_true_eq]
          refine List.ext_getElem? fun j => ?_
          by_cases hj : j < k
          · exact HSAME.out j hj
          · rw [List.getElem?_eq_none (by have := HN.out; omega), List.getElem?_eq_none (by have := HM.out; have := HLL.out; omega)]
        have HV := Nu.hid hv
        clear hv hbw
        go_wp2
        go_ret
        exact ⟨by rw [HV.out]; rfl, HBW.out⟩
  · have j1 : ((n : Int) != (m : Int)) = true := by simp; omega
    have hv : decide (l = l') = false := by
      simp only [decide_eq_false_iff_not]
      intro h
      rw [h] at hn
      omega
    rw [hv]
    clear hll hn hm hv
    go_enter Try.func21, Try.ntmps21
    go_wp2
    go_ret
    exact ⟨rfl, Below.refl _ _⟩

end Go.Proofs.Ytloabkgojopeaaa

/-
  A region that draws its order and whose operations only read, calls among them that only make memory: one walk serves every order.
-/
namespace Go.Proofs.Ytloabkgojopeaaa
open Go.RowKit

/-- A world in which there is w, and more. -/
structure LW (w : World) where
  val : World
  h : Below w.heap.size w val

theorem LW.any (w : World) : Nonempty (LW w) := ⟨⟨w, Below.refl _ _⟩⟩

theorem wp_region_lw {P : Program} {id : Nat} {Q : Exit → Act → World → Prop} {a : Act} {w : World} {l : List Oper} (hm : P.follows .mixedOrders = true) (hB : Region.lexB .any l.toArray = true)
    (h : wpQuiet P l.toArray (fun w' => ∃ D : LW w, w' = D.val) (fun a' => ∀ w', (∃ D : LW w, w' = D.val) → Q .normal a' w') l a) : (Code.region id l.toArray true).wp P Q a w :=
  wp_region_quiet (C := fun w' => ∃ D : LW w, w' = D.val) hm hB ⟨⟨w.drew, (Below.refl _ _).drew⟩, rfl⟩ (by simpa using h)

theorem Calls.lw {P : Program} {f : FuncId} {args : Array Value} {w : World} {D : LW w} {v : Value}
    (h : Calls P f args D.val fun e w' => e = .returned v ∧ Below D.val.heap.size D.val w') : Calls P f args D.val fun e w'' => e = .returned v ∧ ∃ D' : LW w, w'' = D'.val :=
  h.mono fun _ w' ⟨he, hb⟩ => ⟨he, ⟨w', D.h.trans (hb.mono D.h.size)⟩, rfl⟩

end Go.Proofs.Ytloabkgojopeaaa

/-
  The document's own Equal, of any lists of lists.
-/
namespace Go.Proofs.Ytloabkgojopeaaa
open Go.RowKit

set_option maxRecDepth 100000 in
set_option maxHeartbeats 4000000 in
theorem equal11_any (xo yo : Option Addr) (xc yc : Nat) (ls ms : List (List Int)) (w : World) (hx : RwsAt w xo ls) (hy : RwsAt w yo ms) (hl : ls.length ≤ 4611686018427387904) :
    Calls Try.prog 12 #[.slice xo ls.length xc, .slice yo ms.length yc] w fun e w' => e = .returned (.bool (decide (ls = ms))) ∧ Below w.heap.size w w' := by
  have HX := Nu.hid hx
  have HY := Nu.hid hy
  clear hx hy
  by_cases hll : ls.length = ms.length
  · obtain ⟨n, hn⟩ : ∃ n, n = ls.length := ⟨_, rfl⟩
    have hm : n = ms.length := hn.trans hll
    rw [← hn] at hl ⊢
    rw [← hm]
    have HN := Nu.hid hn
    have HM := Nu.hid hm
    clear hll hn hm
    go_enter Try.func12, Try.ntmps12
    go_wp2
    go_loopw [5] (fun c wr => ∃ k : Nat, k ≤ n ∧ c = .int .i64 k ∧ (∀ j, j < k → ls[j]? = ms[j]?) ∧ Below w.heap.size w wr) (fun c _ => n - (intOf c).toNat)
    case atStart => exact ⟨0, Nat.zero_le _, rfl, fun j h => by omega, Below.refl _ _⟩
    case round =>
      obtain ⟨k, hk, rfl, hsame, hbw⟩ := hrel
      have HSAME := Nu.hid hsame
      have HBW := Nu.hid hbw
      clear hsame
      by_cases hlt : k < n
      · have hlti : (k : Int) < (n : Int) := by omega
        have hk0 : (0 : Int) ≤ (k : Int) := by omega
        obtain ⟨x, hx⟩ : ∃ x, ls[k]? = some x := ⟨_, List.getElem?_eq_getElem (by have := HN.out; omega)⟩
        obtain ⟨y, hy⟩ : ∃ y, ms[k]? = some y := ⟨_, List.getElem?_eq_getElem (by have := HM.out; omega)⟩
        obtain ⟨b, o, A, C, rfl, c0, hL, hln, -⟩ := (HX.out.later hbw) k x hx
        obtain ⟨b', o', A', C', rfl, d0, hL', hln', -⟩ := (HY.out.later hbw) k y hy
        have hbl : b < wr.heap.size := block_lt_of_cell c0
        have hbl' : b' < wr.heap.size := block_lt_of_cell d0
        have HAL := Nu.hid (fun W (hW : Below wr.heap.size wr W) => alike_any A A' C C' x.length y.length x y W rfl rfl (hL.ints.later hW) (hL'.ints.later hW) (by omega))
        have k0 : ∀ D : LW wr, D.val.cell? ⟨b, o + k, none⟩ = some (.slice A x.length C) := fun D => (D.h.cell (p := ⟨b, o + k, none⟩) hbl).trans c0
        have k1 : ∀ D : LW wr, D.val.cell? ⟨b', o' + k, none⟩ = some (.slice A' y.length C') := fun D => (D.h.cell (p := ⟨b', o' + k, none⟩) hbl').trans d0
        have hne := LW.any wr
        have HX1 := Nu.hid hx
        have HY1 := Nu.hid hy
        clear hx hy hbw c0 d0 hL hL'
        by_cases e1 : x = y
        · have HAL1 : Hid (∀ W, Below wr.heap.size wr W → Calls Try.prog 21 #[.slice A x.length C, .slice A' y.length C'] W fun e w' => e = .returned (.bool true) ∧ Below W.heap.size W w') := fun W hW => (HAL.out W hW).mono fun e w' h => ⟨by rw [h.1, decide_eq_true e1], h.2⟩
          have HXY := Nu.hid e1
          clear HAL e1
          go_wp2_with fail
          refine wp_region_lw (by kernel_rfl) (by kernel_rfl) ?_
          repeat (go_big_quiet_step ((go_at_call 21; exact Calls.lw (HAL1.out _ (by rename_i D; exact D.h)))))
          refine wpQuiet_nil ?_
          rintro _ ⟨D, rfl⟩
          have HBD := Nu.hid (HBW.out.trans (D.h.mono HBW.out.size))
          generalize D.val = W at *
          clear k0 k1
          go_wp2
          go_roundw
          case rel =>
            refine ⟨k + 1, by omega, by go_num, fun j hj => ?_, HBD.out⟩
            by_cases hjk : j = k
            · subst hjk; rw [HX1.out, HY1.out, HXY.out]
            · exact HSAME.out j (by omega)
          case measure => simp [intOf]; omega
        · have HAL1 : Hid (∀ W, Below wr.heap.size wr W → Calls Try.prog 21 #[.slice A x.length C, .slice A' y.length C'] W fun e w' => e = .returned (.bool false) ∧ Below W.heap.size W w') := fun W hW => (HAL.out W hW).mono fun e w' h => ⟨by rw [h.1, decide_eq_false e1], h.2⟩
          have hv : decide (ls = ms) = false := by
            simp only [decide_eq_false_iff_not]
            intro h
            rw [h, HY1.out] at HX1
            cases HX1.out
            exact e1 rfl
          have HV := Nu.hid hv
          clear hv HAL e1
          go_wp2_with fail
          refine wp_region_lw (by kernel_rfl) (by kernel_rfl) ?_
          repeat (go_big_quiet_step ((go_at_call 21; exact Calls.lw (HAL1.out _ (by rename_i D; exact D.h)))))
          refine wpQuiet_nil ?_
          rintro _ ⟨D, rfl⟩
          have HBD := Nu.hid (HBW.out.trans (D.h.mono HBW.out.size))
          generalize D.val = W at *
          clear k0 k1
          go_wp2
          go_ret
          exact ⟨by rw [HV.out]; rfl, HBD.out⟩
      · have hd : ¬ ((k : Int) < (n : Int)) := by omega
        have hv : decide (ls = ms) = true := by
          simp only [decide_eq_true_eq]
          refine List.ext_getElem? fun j => ?_
          by_cases hj : j < k
          · exact HSAME.out j hj
          · rw [List.getElem?_eq_none (by have := HN.out; omega), List.getElem?_eq_none (by have := HM.out; omega)]
        have HV := Nu.hid hv
        clear hv hbw
        go_wp2
        go_ret
        exact ⟨by rw [HV.out]; rfl, HBW.out⟩
  · have j1 : ((ls.length : Int) != (ms.length : Int)) = true := by simp; omega
    have hv : decide (ls = ms) = false := by
      simp only [decide_eq_false_iff_not]
      intro h
      rw [h] at hll
      omega
    rw [hv]
    clear hll hv
    go_enter Try.func12, Try.ntmps12
    go_wp2
    go_ret
    exact ⟨rfl, Below.refl _ _⟩

end Go.Proofs.Ytloabkgojopeaaa

/-
  The document's first example, as the laws ask of it.
-/
namespace Go.Proofs.Ytloabkgojopeaaa
open Go.RowKit Go.Sort

def TailPost (w : World) (e : Ending) (w' : World) : Prop := ∃ b, e = .returned (.agg #[.int .i64 4, .slice (some ⟨b, 0, none⟩) 4 4]) ∧ EdgesAt w' (some ⟨b, 0, none⟩) Ro.es4 ∧ Below w.heap.size w w'

/-- The example's edges lie at b. -/
theorem es4_at {w : World} {b : Nat} (h : w.heap[b]? = some (.cells #[.int .i64 0, .int .i64 1, .int .i64 0, .int .i64 2, .int .i64 1, .int .i64 2, .int .i64 2, .int .i64 3] 58 (0, 0))) : EdgesAt w (some ⟨b, 0, none⟩) Ro.es4 := by
  intro j p hj
  refine ⟨b, 0, rfl, ?_⟩
  match j, hj with
  | 0, hj => cases hj; exact ⟨by simp [World.cell?, h], by simp [World.cell?, h]⟩
  | 1, hj => cases hj; exact ⟨by simp [World.cell?, h], by simp [World.cell?, h]⟩
  | 2, hj => cases hj; exact ⟨by simp [World.cell?, h], by simp [World.cell?, h]⟩
  | 3, hj => cases hj; exact ⟨by simp [World.cell?, h], by simp [World.cell?, h]⟩

set_option maxRecDepth 100000 in
set_option maxHeartbeats 4000000 in
theorem tail_any (w : World) : Calls Try.prog 10 #[] w (TailPost w) := by
  go_enter Try.func10, Try.ntmps10
  go_wp2
  refine bodyPost_ret (v := .agg #[.int .i64 4, .slice (some ⟨w.heap.size + 1, 0, none⟩) 4 4]) (by simp [results, Try.results10, go_sem]) rfl ?_
  refine ⟨w.heap.size + 1, rfl, es4_at ?_, ((Below.refl _ _).alloc (Nat.le_refl _) _).alloc (by simp) _⟩
  exact alloc_at (by simp)

/-- Four lists in blocks of their own, told in block g. -/
theorem rws_four {w : World} {g g0 g1 g2 g3 n0 n1 n2 n3 : Nat} {l0 l1 l2 l3 : List Int} (h : w.heap[g]? = some (.cells #[.slice (some ⟨g0, 0, none⟩) n0 n0, .slice (some ⟨g1, 0, none⟩) n1 n1, .slice (some ⟨g2, 0, none⟩) n2 n2, .slice (some ⟨g3, 0, none⟩) n3 n3] 22 (0, 0)))
    (h0 : IntsBlk w g0 l0) (h1 : IntsBlk w g1 l1) (h2 : IntsBlk w g2 l2) (h3 : IntsBlk w g3 l3) (e0 : l0.length = n0) (e1 : l1.length = n1) (e2 : l2.length = n2) (e3 : l3.length = n3) (b0 : n0 ≤ 100) (b1 : n1 ≤ 100) (b2 : n2 ≤ 100) (b3 : n3 ≤ 100) :
    RwsAt w (some ⟨g, 0, none⟩) [l0, l1, l2, l3] := by
  obtain ⟨c0, c1, c2, c3, -⟩ := four_cells h
  subst e0
  subst e1
  subst e2
  subst e3
  intro v l hl
  match v, hl with
  | 0, hl => cases hl; exact ⟨g, 0, _, _, rfl, c0, h0.lst rfl, by omega, Nat.le_refl _, by omega⟩
  | 1, hl => cases hl; exact ⟨g, 0, _, _, rfl, c1, h1.lst rfl, by omega, Nat.le_refl _, by omega⟩
  | 2, hl => cases hl; exact ⟨g, 0, _, _, rfl, c2, h2.lst rfl, by omega, Nat.le_refl _, by omega⟩
  | 3, hl => cases hl; exact ⟨g, 0, _, _, rfl, c3, h3.lst rfl, by omega, Nat.le_refl _, by omega⟩

/-- A literal of ints in memory that was laid one block after the other. -/
theorem lit_ints {w : World} {k : Nat} {l : List Int} (h : w.heap[k]? = some (.cells (l.map (Value.int .i64)).toArray 3 (0, 0))) : IntsBlk w k l := h

theorem ck4_any (b : Nat) (xo : Option Addr) (xc : Nat) (V : World) (he : EdgesAt V (some ⟨b, 0, none⟩) Ro.es4) (hx : RwsAt V xo Ro.rot4) :
    Calls Try.prog 16 #[.agg #[.int .i64 4, .slice (some ⟨b, 0, none⟩) 4 4], .slice xo 4 xc] V fun e w' => e = .returned (.tuple #[.int .i64 0, .int .i64 0]) ∧ Below V.heap.size V w' :=
  (rcheck_any 4 (some ⟨b, 0, none⟩) 4 Ro.es4 xo xc Ro.rot4 V he (by decide) hx).mono (by
    rintro e w' ⟨h1, h2⟩
    rw [Ro.check4] at h1
    exact ⟨h1, h2⟩)
theorem ckB4_any (b : Nat) (xo : Option Addr) (xc : Nat) (V : World) (he : EdgesAt V (some ⟨b, 0, none⟩) Ro.es4) (hx : RwsAt V xo Ro.bad4) :
    Calls Try.prog 16 #[.agg #[.int .i64 4, .slice (some ⟨b, 0, none⟩) 4 4], .slice xo 4 xc] V fun e w' => e = .returned (.tuple #[.int .i64 2, .int .i64 113]) ∧ Below V.heap.size V w' :=
  (rcheck_any 4 (some ⟨b, 0, none⟩) 4 Ro.es4 xo xc Ro.bad4 V he (by decide) hx).mono (by
    rintro e w' ⟨h1, h2⟩
    rw [Ro.checkB4] at h1
    exact ⟨h1, h2⟩)
def Nx4Post (V : World) (e : Ending) (w' : World) : Prop := ∃ g, e = .returned (.tuple #[.slice (some ⟨g, 0, none⟩) 8 8, .int .i64 0]) ∧ IntsBlk w' g [2, 4, 0, 5, 1, 6, 3, 7] ∧ Below V.heap.size V w'
theorem nx4_any (b : Nat) (xo : Option Addr) (xc : Nat) (V : World) (he : EdgesAt V (some ⟨b, 0, none⟩) Ro.es4) (hx : RwsAt V xo Ro.rot4) :
    Calls Try.prog 18 #[.agg #[.int .i64 4, .slice (some ⟨b, 0, none⟩) 4 4], .slice xo 4 xc] V (Nx4Post V) :=
  (rnext_any 4 (some ⟨b, 0, none⟩) 4 Ro.es4 xo xc Ro.rot4 V he (by decide) hx).mono (by
    rintro e w' ⟨hb, h⟩
    rw [Ro.check4, Ro.next4] at h
    rcases h with ⟨h, -⟩ | ⟨-, g, h1, -, h2⟩
    · exact absurd rfl h
    · exact ⟨g, h1, h2, hb⟩)
def Cn4Post (V : World) (e : Ending) (w' : World) : Prop := ∃ xo xc, e = .returned (.slice xo 4 xc) ∧ RwsAt w' xo [[0, 2], [1, 4], [3, 5, 6], [7]] ∧ Below V.heap.size V w'
theorem cn4_any (xo : Option Addr) (xc : Nat) (V : World) (hx : RwsAt V xo Ro.rot4) :
    Calls Try.prog 23 #[.slice xo 4 xc] V (Cn4Post V) :=
  (canon_any xo xc Ro.rot4 V hx (by decide)).mono (by
    rintro e w' ⟨v, vs, rfl, hr, hb⟩
    rw [Ro.canon4] at hr
    obtain ⟨yo, yc, rfl, hy, -⟩ := hr.rws (by decide)
    exact ⟨yo, yc, rfl, hy, hb⟩)

set_option maxRecDepth 100000 in
set_option maxHeartbeats 16000000 in
theorem fixed11_any (w : World) : Calls Try.prog 15 #[] w fun e w' => e = .returned (.bool true) ∧ Below w.heap.size w w' := by
  have HT := Nu.hid tail_any
  go_enter Try.func15, Try.ntmps15
  go_wp2_with (go_at_call 10; refine (HT.out _).mono ?_; refine Hid.out ?_)
  refine Nu.hid ?_
  rintro e w1 ⟨b1, rfl, he1, hb1⟩
  have hr0 : RwsAt w1 (some ⟨w.heap.size + 1 + 1 + 1 + 1, 0, none⟩) Ro.rot4 := by
    refine RwsAt.later ?_ hb1
    refine rws_four (alloc_at (by simp)) (lit_ints ?_) (lit_ints ?_) (lit_ints ?_) (lit_ints ?_) rfl rfl rfl rfl (by omega) (by omega) (by omega) (by omega)
    all_goals repeat (first | exact alloc_at (by simp) | refine (Below.heap_alloc _ _ _ (by first | (simp; done) | (simp; omega))).trans ?_)
  have hbw1 : Below w.heap.size w w1 := by
    refine Below.trans ?_ (hb1.mono (by first | (simp; done) | (simp; omega)))
    repeat (first | exact Below.refl _ _ | refine Below.alloc ?_ (by first | (simp; done) | (simp; omega)) _)
  have HR0 := Nu.hid hr0
  have HBW1 := Nu.hid hbw1
  have HC := Nu.hid (ck4_any b1 _ 4 w1 he1 hr0)
  have hs1 : w.heap.size + 1 + 1 + 1 + 1 < w1.heap.size := by
    have := hb1.size
    simp at this
    omega
  generalize w.heap.size + 1 + 1 + 1 + 1 = R at *
  clear hr0 hbw1 he1 hb1 hs1
  go_wp2_with (go_at_call 16; refine HC.out.mono ?_; rintro e w2 ⟨rfl, hb2⟩; refine Hid.out ?_)
  refine Nu.hid ?_
  have HR2 := Nu.hid (HR0.out.later hb2)
  have HBW2 := Nu.hid (HBW1.out.trans (hb2.mono HBW1.out.size))
  clear HC hb2 HR0 HBW1
  go_wp2_with (go_at_call 10; refine (HT.out _).mono ?_; refine Hid.out ?_)
  refine Nu.hid ?_
  rintro e w3 ⟨b3, rfl, he3, hb3⟩
  have HE3 := Nu.hid he3
  have HR3 := Nu.hid (HR2.out.later hb3)
  have HBW3 := Nu.hid (HBW2.out.trans (hb3.mono HBW2.out.size))
  clear he3 hb3 HR2 HBW2
  obtain ⟨W4, hW4⟩ : ∃ W, W = ((((w3.alloc (.cells #[.int .i64 0, .int .i64 2] 3)).alloc (.cells #[.int .i64 1, .int .i64 4] 3)).alloc (.cells #[.int .i64 3, .int .i64 5] 3)).alloc (.cells #[.int .i64 7] 3)).alloc (.cells #[.slice (some ⟨w3.heap.size, 0, none⟩) 2 2, .slice (some ⟨w3.heap.size + 1, 0, none⟩) 2 2, .slice (some ⟨w3.heap.size + 1 + 1, 0, none⟩) 2 2, .slice (some ⟨w3.heap.size + 1 + 1 + 1, 0, none⟩) 1 1] 22) := ⟨_, rfl⟩
  have hb4 : Below w3.heap.size w3 W4 := by
    rw [hW4]
    repeat (first | exact Below.refl _ _ | refine Below.alloc ?_ (by first | (simp; done) | (simp; omega)) _)
  have hr4 : RwsAt W4 (some ⟨w3.heap.size + 1 + 1 + 1 + 1, 0, none⟩) Ro.bad4 := by
    rw [hW4]
    refine rws_four (alloc_at (by simp)) (lit_ints ?_) (lit_ints ?_) (lit_ints ?_) (lit_ints ?_) rfl rfl rfl rfl (by omega) (by omega) (by omega) (by omega)
    all_goals repeat (first | exact alloc_at (by simp) | refine (Below.heap_alloc _ _ _ (by first | (simp; done) | (simp; omega))).trans ?_)
  have HC4 := Nu.hid (ckB4_any b3 _ 4 W4 (HE3.out.later hb4) hr4)
  have HR4 := Nu.hid (HR3.out.later hb4)
  have HBW4 := Nu.hid (HBW3.out.trans (hb4.mono HBW3.out.size))
  rw [hW4] at HC4
  have HW4 := Nu.hid hW4
  clear hb4 hr4 hW4 HR3 HBW3
  go_wp2_with (go_at_call 16; refine HC4.out.mono ?_; rintro e w5 ⟨rfl, hb5⟩; refine Hid.out ?_)
  refine Nu.hid ?_
  rw [← HW4.out] at hb5
  have HR5 := Nu.hid (HR4.out.later hb5)
  have HBW5 := Nu.hid (HBW4.out.trans (hb5.mono HBW4.out.size))
  clear hb5 HC4 HR4 HBW4 HW4 HE3
  go_wp2_with (go_at_call 10; refine (HT.out _).mono ?_; refine Hid.out ?_)
  refine Nu.hid ?_
  rintro e w6 ⟨b6, rfl, he6, hb6⟩
  have HR6 := Nu.hid (HR5.out.later hb6)
  have HBW6 := Nu.hid (HBW5.out.trans (hb6.mono HBW5.out.size))
  have HN := Nu.hid (nx4_any b6 _ 4 w6 he6 HR6.out)
  clear he6 hb6 HR5 HBW5
  go_wp2_with (go_at_call 18; refine HN.out.mono ?_; refine Hid.out ?_)
  refine Nu.hid ?_
  rintro e w7 ⟨g7, rfl, hi7, hb7⟩
  have HR7 := Nu.hid (HR6.out.later hb7)
  have HBW7 := Nu.hid (HBW6.out.trans (hb7.mono HBW6.out.size))
  have hb8 : Below w7.heap.size w7 (w7.alloc (.cells #[.int .i64 2, .int .i64 4, .int .i64 0, .int .i64 5, .int .i64 1, .int .i64 6, .int .i64 3, .int .i64 7] 3)) := (Below.refl _ _).alloc (Nat.le_refl _) _
  have HAL := Nu.hid (alike_any (some ⟨g7, 0, none⟩) (some ⟨w7.heap.size, 0, none⟩) 8 8 8 8 [2, 4, 0, 5, 1, 6, 3, 7] [2, 4, 0, 5, 1, 6, 3, 7] (w7.alloc (.cells #[.int .i64 2, .int .i64 4, .int .i64 0, .int .i64 5, .int .i64 1, .int .i64 6, .int .i64 3, .int .i64 7] 3)) rfl rfl (hi7.at.later hb8) (IntsBlk.at (lit_ints (heap_alloc_new _ _))) (by decide))
  rw [decide_eq_true rfl] at HAL
  have HB8 := Nu.hid hb8
  clear HN HR6 HBW6 hb7 hi7 hb8
  go_wp2_with (go_at_call 21; refine HAL.out.mono ?_; rintro e w8 ⟨rfl, hb8⟩; refine Hid.out ?_)
  refine Nu.hid ?_
  have hb8' := HB8.out.trans (hb8.mono HB8.out.size)
  have HR8 := Nu.hid (HR7.out.later hb8')
  have HBW8 := Nu.hid (HBW7.out.trans (hb8'.mono HBW7.out.size))
  have HCN := Nu.hid (cn4_any _ 4 w8 HR8.out)
  clear hb8 hb8' HAL HB8 HR7 HBW7
  go_wp2_with (go_at_call 23; refine HCN.out.mono ?_; refine Hid.out ?_)
  refine Nu.hid ?_
  rintro e w9 ⟨yo, yc, rfl, hy9, hb9⟩
  have HBW9 := Nu.hid (HBW8.out.trans (hb9.mono HBW8.out.size))
  obtain ⟨W10, hW10⟩ : ∃ W, W = ((((w9.alloc (.cells #[.int .i64 0, .int .i64 2] 3)).alloc (.cells #[.int .i64 1, .int .i64 4] 3)).alloc (.cells #[.int .i64 3, .int .i64 5, .int .i64 6] 3)).alloc (.cells #[.int .i64 7] 3)).alloc (.cells #[.slice (some ⟨w9.heap.size, 0, none⟩) 2 2, .slice (some ⟨w9.heap.size + 1, 0, none⟩) 2 2, .slice (some ⟨w9.heap.size + 1 + 1, 0, none⟩) 3 3, .slice (some ⟨w9.heap.size + 1 + 1 + 1, 0, none⟩) 1 1] 22) := ⟨_, rfl⟩
  have hb10 : Below w9.heap.size w9 W10 := by
    rw [hW10]
    repeat (first | exact Below.refl _ _ | refine Below.alloc ?_ (by first | (simp; done) | (simp; omega)) _)
  have hr10 : RwsAt W10 (some ⟨w9.heap.size + 1 + 1 + 1 + 1, 0, none⟩) [[0, 2], [1, 4], [3, 5, 6], [7]] := by
    rw [hW10]
    refine rws_four (alloc_at (by simp)) (lit_ints ?_) (lit_ints ?_) (lit_ints ?_) (lit_ints ?_) rfl rfl rfl rfl (by omega) (by omega) (by omega) (by omega)
    all_goals repeat (first | exact alloc_at (by simp) | refine (Below.heap_alloc _ _ _ (by first | (simp; done) | (simp; omega))).trans ?_)
  have HEQ := Nu.hid (equal11_any yo (some ⟨w9.heap.size + 1 + 1 + 1 + 1, 0, none⟩) yc 4 [[0, 2], [1, 4], [3, 5, 6], [7]] [[0, 2], [1, 4], [3, 5, 6], [7]] W10 (hy9.later hb10) hr10 (by decide))
  rw [decide_eq_true rfl, hW10] at HEQ
  have HW10 := Nu.hid hW10
  have HBW10 := Nu.hid (HBW9.out.trans (hb10.mono HBW9.out.size))
  clear hb9 hb10 hr10 hy9 hW10 HCN HR8 HBW8 HBW9
  go_wp2_with (go_at_call 12; refine HEQ.out.mono ?_; rintro e w11 ⟨rfl, hb11⟩; refine Hid.out ?_)
  refine Nu.hid ?_
  rw [← HW10.out] at hb11
  have HBW11 := Nu.hid (HBW10.out.trans (hb11.mono HBW10.out.size))
  clear hb11 HEQ HW10 HBW10
  go_wp2
  go_ret
  exact ⟨rfl, HBW11.out⟩

end Go.Proofs.Ytloabkgojopeaaa

/-
  Lists of lists that came in.
-/
namespace Go.Proofs.Ytloabkgojopeaaa
open Go.ChangeShapes Go.WideShapes Go.ChangeAt Go.RowKit Go.Deep

theorem cellsRow : Try.prog.cellsOf 22 = 1 := by kernel_rfl
theorem bytesRow : Try.prog.bytesOf 22 = 24 := by kernel_rfl

theorem weights_all_mem {H : Type} {P : Program} {e : TypeId} {d : DataW H} {l : List (DataW H)} (h : d ∈ l) : ∀ n ∈ d.weights P e, n ∈ DataW.weightsAll P e l := by
  induction l with
  | nil => cases h
  | cons x r ih =>
    intro n hn
    simp only [DataW.weightsAll, List.mem_append]
    rcases List.mem_cons.1 h with rfl | h
    · exact .inl hn
    · exact .inr (ih h n hn)

/-- The reach of a row inside. -/
theorem sized_row {H : Type} {P : Program} {ts : List TypeId} {ds : List (DataW H)} (h : (DataW.weightsEach P ts ds).all (· ≤ reachBytes) = true) {j : Nat} {t e q : TypeId} {elems spare e' sp' : List (DataW H)}
    (ht : ts[j]? = some t) (hd : ds[j]? = some (.slice elems spare)) (hu : P.underlying t = some (.slice e)) (hu2 : P.underlying e = some (.slice q)) (hx : DataW.slice e' sp' ∈ elems) : (e'.length + sp'.length) * P.bytesOf q ≤ reachBytes := by
  refine of_decide_eq_true (List.all_eq_true.1 h _ (DataW.weights_mem_each ht hd _ ?_))
  simp only [DataW.weights, hu, List.mem_cons, List.mem_append]
  exact .inr (.inl (weights_all_mem hx _ (by simp [DataW.weights, hu2])))

/-- What is known of lists that came in. -/
structure RowsIn (w : World) (ao : Option Addr) (len cap : Nat) (ls : List (List Int)) : Prop where
  hlen : ls.length = len
  hat : RwsAt w ao ls
  hsm : len * 24 ≤ 140737488351232

theorem rows_of_trod {H : Type} {enc : TypeId × Value → H} {W : World} {t : TypeId} {a : Option Addr} {len cap : Nat} {d : DataW H} {p : List MemPlace} {ts : List TypeId} {ds : List (DataW H)} {j : Nat}
    (ht : Try.prog.underlying t = some (.slice 22)) (h : DataW.Trod enc Try.prog W 0 (fun _ => true) true t (.slice a len cap) d p) (hsz : (DataW.weightsEach Try.prog ts ds).all (· ≤ reachBytes) = true) (hts : ts[j]? = some t) (hds : ds[j]? = some d) :
    ∃ ls, RowsIn W a len cap ls := by
  obtain ⟨fuel, hf⟩ := h
  rcases open_int_rows ht Try.underlying22 Try.underlying3 cellsRow cellsInt hf with ⟨hcs, _⟩ | ⟨x, l, c, A, L, C, Z, hcs, _, hl, hm, hx, hrow⟩
  · simp [Value.cells] at hcs
    obtain ⟨rfl, rfl, rfl⟩ := hcs
    exact ⟨[], rfl, RwsAt.nil _ _, by omega⟩
  · simp [Value.cells] at hcs
    obtain ⟨rfl, rfl, rfl⟩ := hcs
    simp only [Prod.mk.injEq] at hx
    obtain ⟨rfl, _⟩ := hx
    have hw := sized_slice hsz hts hds ht
    rw [bytesRow] at hw
    simp only [List.length_map, List.length_range, reachBytes] at hw
    refine ⟨(List.range len).map fun r => (Z r).take (L r), by simp, fun v m hvm => ?_, by omega⟩
    have hv : v < len := by
      have := (List.getElem?_eq_some_iff.1 hvm).1
      simpa using this
    rw [List.getElem?_map, List.getElem?_range hv] at hvm
    obtain rfl := Option.some.inj hvm
    obtain ⟨hc, h1, h2, h3, h4, h5, h6⟩ := hrow v (by omega)
    have hlen : ((Z v).take (L v)).length = L v := by rw [List.length_take]; omega
    have hC : C v ≤ 17592186043904 := by
      cases hA : A v with
      | none => have := h5 hA; omega
      | some y =>
        have hmem : intRow .i64 (A v) (L v) (Z v) ∈ (List.range len).map fun r => (intRow .i64 (A r) (L r) (Z r) : DataW H) := List.mem_map.2 ⟨v, List.mem_range.2 hv, rfl⟩
        rw [hA] at hmem
        have := sized_row hsz hts hds ht Try.underlying22 hmem
        rw [bytesInt] at this
        simp only [lits, List.length_map, List.length_take, List.length_drop, reachBytes] at this
        omega
    obtain ⟨xb, xo, sp⟩ := x
    have hsp : sp = none := by simpa [Addr.add] using World.cell?_spot (hrow 0 (by omega)).1
    subst hsp
    have e : ((⟨xb, xo, none⟩ : Addr).add v) = ⟨xb, xo + v, none⟩ := by
      by_cases h0 : v = 0 <;> simp [Addr.add, h0]
    rw [e] at hc
    refine ⟨xb, xo, A v, C v, rfl, by rw [hlen]; exact hc, ⟨rfl, fun i z hz => ?_, fun hA => ?_⟩, by rw [hlen]; omega, by rw [hlen]; exact h1, by omega⟩
    · rw [List.getElem?_take] at hz
      split at hz
      · rename_i hiL
        obtain ⟨y, hA⟩ : ∃ y, A v = some y := by
          cases hA : A v with
          | none => have := h5 hA; omega
          | some y => exact ⟨y, rfl⟩
        have hci := (h6 y hA).2 i (by omega)
        rw [List.getD_eq_getElem?_getD, hz] at hci
        obtain ⟨yb, yo, ysp⟩ := y
        have hc0 := (h6 _ hA).2 0 (by omega)
        have hsp : ysp = none := by simpa [Addr.add] using World.cell?_spot hc0
        subst hsp
        have e2 : ((⟨yb, yo, none⟩ : Addr).add i) = ⟨yb, yo + i, none⟩ := by
          by_cases h0 : i = 0 <;> simp [Addr.add, h0]
        rw [e2] at hci
        exact ⟨yb, yo, hA, hci⟩
      · cases hz
    · have := h5 hA
      rw [hlen]
      omega

end Go.Proofs.Ytloabkgojopeaaa
