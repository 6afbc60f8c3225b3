/-
  Out: the iterator over the half-edges that leave a vertex, and its contract.
-/
import Derived.Test.YtlnkcebfnamdcaaCsGet2
import Derived.RangeFuncNested
import Derived.RangeFuncBound
import Derived.RangeFuncCalls
import Derived.RangeFuncLeaves
import Derived.RangeFuncBox
import Derived.Shelf.Abstract
import Derived.Shelf.RegionOpen
import Derived.OwnWalkIn
import Derived.TacticsInMore
import Derived.LoopNIn
import Derived.LoopIn
import Derived.Maps.AppendAt
namespace Go.Proofs.Ytlnkcebfnamdcaa
open Go.RowKit Go.Shelf

attribute [local go_sem] Oper.semAt_some

/-- What lay below n₀ lies as it lay, and so does the iterator's box. -/
def KpW (n₀ Bs : Nat) (W W' : World) : Prop := Below n₀ W W' ∧ W'.heap[Bs]? = W.heap[Bs]?

theorem KpW.refl (n₀ Bs : Nat) (W : World) : KpW n₀ Bs W W := ⟨Below.refl _ _, rfl⟩
theorem kpW_t {n₀ Bs : Nat} {A B C : World} (h : KpW n₀ Bs A B) (k : KpW n₀ Bs B C) : KpW n₀ Bs A C := ⟨h.1.trans k.1, k.2.trans h.2⟩
theorem kpW_b {n₀ Bs : Nat} {w : World} (hn : n₀ ≤ w.heap.size) (hs : Bs < w.heap.size) (W : World) (l : Nat) (o o' : Obj) (hl : w.heap.size ≤ l) (h : W.heap[l]? = some o) (h1 : o.isCells = false) (h2 : o.isWalk = false) : KpW n₀ Bs W (W.putObj l o') :=
  ⟨belowK_b hn W l o o' hl h h1 h2, World.putObj_heap_other (by omega)⟩

/-- The numbers l lie at ao, below n₀. -/
def IntsUnder (n₀ : Nat) (w : World) (ao : Option Addr) (l : List Int) : Prop := ∀ (j : Nat) (x : Int), l[j]? = some x → ∃ b o : Nat, ao = some ⟨b, o, none⟩ ∧ b < n₀ ∧ w.cell? ⟨b, o + j, none⟩ = some (.int .i64 x)

theorem IntsAt.under {w W : World} {ao : Option Addr} {l : List Int} (h : IntsAt w ao l) (hb : Below w.heap.size w W) : IntsUnder w.heap.size W ao l := fun j x hj => by
  obtain ⟨b, o, e, hc⟩ := h j x hj
  exact ⟨b, o, e, block_lt_of_cell hc, (hb.cell (p := ⟨b, o + j, none⟩) (block_lt_of_cell hc)).trans hc⟩

theorem IntsUnder.below {n₀ : Nat} {w W : World} {ao : Option Addr} {l : List Int} (h : IntsUnder n₀ w ao l) (hb : Below n₀ w W) : IntsUnder n₀ W ao l := fun j x hj => by
  obtain ⟨b, o, e, hl, hc⟩ := h j x hj
  exact ⟨b, o, e, hl, (hb.cell (p := ⟨b, o + j, none⟩) hl).trans hc⟩

set_option maxRecDepth 100000 in
set_option maxHeartbeats 2000000 in
/-- The closure that Out answers, for every loop body that keeps what lay below n₀ and its box. -/
theorem citer_in (F : Fence) (n : Nat) (hf : F.fn 36) (hro : F.round = none) (hn : 1 ≤ n) (l Bs n₀ cap : Nat) (ao : Option Addr) (zs : List Int) (hz : zs.length ≤ 8388608) (J Jx : List Int → World → Prop)
    (hY : ∀ pre x W, J pre W → pre.length < zs.length → YieldAt F (n - 1) Try.prog l #[.int .i64 x] W fun e W' =>
      (e = .returned (.bool true) ∧ J (pre ++ [x]) W' ∧ KpW n₀ Bs W W') ∨ (e = .returned (.bool false) ∧ Jx (pre ++ [x]) W'))
    (W : World) (hB : Boxed W Bs 25 (.slice ao zs.length cap)) (hc : IntsUnder n₀ W ao zs) (h0 : J [] W) :
    CallsIn F n Try.prog 36 #[.func (.yield l) #[] #[], .pointer (some ⟨Bs, 0, none⟩)] W fun e W' => (∃ v, e = .returned v) ∧ ((∃ ys, ys = zs ∧ J ys W') ∨ (∃ pre, pre <+: zs ∧ Jx pre W')) := by
  have hb0 := hB.cell
  refine callsIn_of_wp Try.func36 rfl hf ?_ hro
  simp only [Try.ntmps36, List.size_toArray, List.length_cons, List.length_nil, Nat.reduceAdd, Nat.reduceSub, Array.replicate_succ, Array.replicate_zero, List.push_toArray, List.append_toArray, List.nil_append, List.cons_append]
  gi_wp2
  gi_loopw [6] (fun i wr => ∃ k : Nat, k ≤ zs.length ∧ i = .int .i64 k ∧ J (zs.take k) wr ∧ KpW n₀ Bs W wr) (fun i _ => zs.length - (intOf i).toNat)
  case atStart => exact ⟨0, Nat.zero_le _, rfl, by simpa using h0, KpW.refl _ _ _⟩
  case round =>
    obtain ⟨k, hk, rfl, hJs, hnx⟩ := hrel
    by_cases hlt : k < zs.length
    · obtain ⟨z, hz0⟩ : ∃ z, zs[k]? = some z := ⟨_, List.getElem?_eq_getElem hlt⟩
      obtain ⟨b, o, rfl, hbn, hcz⟩ := hc k z hz0
      have hb1 : wr.cell? ⟨Bs, 0, none⟩ = some (.slice (some ⟨b, o, none⟩) zs.length cap) := (World.cell?_of_block (w := W) (a := ⟨Bs, 0, none⟩) hnx.2).trans hb0
      have hc1 : wr.cell? ⟨b, o + k, none⟩ = some (.int .i64 z) := (hnx.1.cell (p := ⟨b, o + k, none⟩) hbn).trans hcz
      obtain ⟨fn, tmps, assign, body, hy, hR⟩ := hY (zs.take k) z wr hJs (by simp; omega)
      have hsn : zs.take (k + 1) = zs.take k ++ [z] := by
        rw [List.take_add_one, hz0]
        rfl
      have hk0 : (0 : Int) ≤ (k : Int) := by omega
      have hk1 : (k : Int) < (zs.length : Int) := by omega
      have HSN := Nu.hid hsn
      have HJ := Nu.hid hJs
      have HNX := Nu.hid hnx
      clear hsn hJs hnx hY hcz hz0
      gi_wp2
      refine hR.mono ?_
      rintro e W3 (⟨rfl, hJ3, hk3⟩ | ⟨rfl, hJx3⟩)
      · have HJ3 := Nu.hid hJ3
        have HK3 := Nu.hid hk3
        clear hJ3 hk3
        gi_wp2
        go_roundw
        case rel => exact ⟨k + 1, by omega, by go_num, by rw [HSN.out]; exact HJ3.out, kpW_t HNX.out HK3.out⟩
        case measure => simp [intOf]; omega
      · have HJX3 := Nu.hid hJx3
        clear hJx3
        gi_wp2
        refine bodyPost_ret (results_none rfl _ _ _) rfl ?_
        exact ⟨⟨_, rfl⟩, .inr ⟨_, by rw [← HSN.out]; exact List.take_prefix _ _, HJX3.out⟩⟩
    · have hd : ¬ ((k : Int) < (zs.length : Int)) := by omega
      have HJ : Hid (J zs wr) := by
        show J zs wr
        rw [List.take_of_length_le (by omega)] at hJs
        exact hJs
      clear hJs hnx hY
      gi_wp2
      go_end0
      refine ⟨⟨_, rfl⟩, .inl ?_⟩
      first | exact ⟨_, rfl, HJ.out⟩ | exact HJ.out

/-- So it is an iterator over zs. -/
theorem citer_stops (F : Fence) (n : Nat) (hf : F.fn 36) (hro : F.round = none) (hn : 1 ≤ n) (Bs n₀ cap : Nat) (ao : Option Addr) (zs : List Int) (hz : zs.length ≤ 8388608) (w : World)
    (hn₀ : n₀ ≤ w.heap.size) (hB : Boxed w Bs 25 (.slice ao zs.length cap)) (hc : IntsUnder n₀ w ao zs) :
    SeqStopsK F n Try.prog 36 #[.pointer (some ⟨Bs, 0, none⟩)] (fun x : Int => #[Value.int .i64 x]) (KpW n₀ Bs) (fun ys => ys = zs) (fun pre => pre <+: zs) zs.length w := fun l J Jx W hW _ _ hY h0 =>
  citer_in F n hf hro hn l Bs n₀ cap ao zs hz J Jx hY W ((hW.block Bs hB.lt).trans hB) (hc.below (hW.mono hn₀)) h0

def ItPost (n : Nat) (es : List (Int × Int)) (x : Int) (w0 w : World) (e : Ending) (w' : World) : Prop :=
  ∃ Bs ao cap, e = .returned (.func (.func 36) #[] #[.pointer (some ⟨Bs, 0, none⟩)]) ∧ w.heap.size ≤ Bs ∧ Boxed w' Bs 25 (.slice ao (Cs.outZ n es x).length cap) ∧ IntsAt w0 ao (Cs.outZ n es x) ∧ Below w.heap.size w w'

set_option maxRecDepth 100000 in
set_option maxHeartbeats 2000000 in
theorem citer_any (v : Value) (n : Nat) (es : List (Int × Int)) (x : Int) (w0 w : World) (h : IsAdj w0 v n es) (hb : Below w0.heap.size w0 w) : Calls Try.prog 23 #[v, .int .i64 x] w (ItPost n es x w0 w) := by
  have HL := Nu.hid (leaving_any v n es x w0 w h hb)
  clear h hb
  go_enter Try.func23, Try.ntmps23
  go_wp2_with (go_at_call 28; refine HL.out.mono ?_; rintro e w1 ⟨ao, cap, rfl, hi, k, hw⟩; have HI := Nu.hid hi; have HW := Nu.hid hw; clear hi hw)
  go_ret
  have hw := HW.out
  have hi := HI.out
  subst hw
  refine ⟨w.heap.size, ao, cap, rfl, Nat.le_refl _, ?_, hi, ?_⟩
  · exact Boxed.new (w.drewN k) _ _
  · exact (below_drewN (Below.refl _ _) k).alloc (Nat.le_refl _) _

end Go.Proofs.Ytlnkcebfnamdcaa
