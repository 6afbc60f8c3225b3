/-
  A copy of a list, the other way round.
-/
import Derived.Test.YtfkmldopfhdbkaaRoLf
import Derived.Test.YtfkmldopfhdbkaaMg12
import Derived.Lib.SliceRun
namespace Go.Proofs.Ytfkmldopfhdbkaa
open Go.RowKit

namespace Ro
/-- i pairs of elements have been exchanged, from both ends inward. -/
def rev (l : List Int) : Nat → List Int
  | 0 => l
  | i + 1 => ((rev l i).set i (l.getD (l.length - 1 - i) 0)).set (l.length - 1 - i) (l.getD i 0)
theorem rev_len (l : List Int) : ∀ i, (rev l i).length = l.length
  | 0 => rfl
  | i + 1 => by simp [rev, rev_len l i]
theorem rev_at (l : List Int) : ∀ i, 2 * i ≤ l.length → ∀ t, t < l.length → (rev l i)[t]? = if t < i ∨ l.length - i ≤ t then l[l.length - 1 - t]? else l[t]?
  | 0, _, t, ht => by
    rw [if_neg (by omega)]
    rfl
  | i + 1, hi, t, ht => by
    have ih := rev_at l i (by omega) t ht
    have e1 : l[i]? = some (l.getD i 0) := by
      rw [List.getD_eq_getElem?_getD, List.getElem?_eq_getElem (by omega)]
      rfl
    have e2 : l[l.length - 1 - i]? = some (l.getD (l.length - 1 - i) 0) := by
      rw [List.getD_eq_getElem?_getD, List.getElem?_eq_getElem (by omega)]
      rfl
    unfold rev
    rw [List.getElem?_set, List.getElem?_set, List.length_set, rev_len]
    by_cases h1 : l.length - 1 - i = t
    · rw [if_pos h1, if_pos (by omega), if_pos (by omega), show l.length - 1 - t = i by omega, e1]
    · rw [if_neg h1]
      by_cases h2 : i = t
      · rw [if_pos h2, if_pos (by omega), if_pos (by omega), ← h2, e2]
      · rw [if_neg h2, ih]
        by_cases h3 : t < i ∨ l.length - i ≤ t
        · rw [if_pos h3, if_pos (by omega)]
        · rw [if_neg h3, if_neg (by omega)]
theorem rev_all {l : List Int} {i : Nat} (h : 2 * i ≤ l.length) (h2 : l.length ≤ 2 * i + 1) : rev l i = l.reverse := by
  refine List.ext_getElem? fun t => ?_
  by_cases ht : t < l.length
  · rw [rev_at l i h t ht, List.getElem?_reverse ht]
    by_cases h3 : t < i ∨ l.length - i ≤ t
    · rw [if_pos h3]
    · rw [if_neg h3, show l.length - 1 - t = t by omega]
  · rw [List.getElem?_eq_none (by rw [rev_len]; omega), List.getElem?_eq_none (by simp; omega)]
end Ro

/-- A list of one's own, element by element; a store into it. -/
theorem OwnZ.cellAt {w : World} {B g n c : Nat} {l : List Int} (h : OwnZ w B (.slice (some ⟨g, 0, none⟩) n c) l) {i : Nat} {x : Int} (hx : l[i]? = some x) : w.cell? ⟨g, i, none⟩ = some (.int .i64 x) := by
  have hc := World.ownsRow.cells h (g := g) rfl i (.int .i64 x) (by rw [List.getElem?_map, hx]; rfl)
  have ea : ((⟨g, 0, none⟩ : Addr).add i) = ⟨g, i, none⟩ := by
    by_cases h0 : i = 0 <;> simp [Addr.add, h0]
  rw [ea] at hc
  exact hc
theorem OwnZ.len {w : World} {B g n c : Nat} {l : List Int} (h : OwnZ w B (.slice (some ⟨g, 0, none⟩) n c) l) : n = l.length := by
  rcases h.2 with ⟨h', _⟩ | ⟨g', cap, cur, h', _⟩
  · cases h'
  · cases h'; rfl
theorem OwnZ.free {w : World} {B g n c : Nat} {l : List Int} (h : OwnZ w B (.slice (some ⟨g, 0, none⟩) n c) l) (i : Nat) : w.frozen? ⟨g, i, none⟩ = false := by
  obtain rfl := h.len
  exact World.ownsRow.frozenAt h i
theorem OwnZ.set {w : World} {B g n c : Nat} {l : List Int} (h : OwnZ w B (.slice (some ⟨g, 0, none⟩) n c) l) (i : Nat) (x : Int) : OwnZ (w.setCell ⟨g, i, none⟩ (.int .i64 x)) B (.slice (some ⟨g, 0, none⟩) n c) (l.set i x) := by
  obtain rfl := h.len
  have := (World.ownsRow.stored h i (.int .i64 x)).1
  unfold OwnZ
  rw [List.length_set, List.map_set]
  exact this

def RevPost (B : Nat) (v : Value) (l : List Int) (w : World) (e : Ending) (w' : World) : Prop := e = .returned (.tuple #[]) ∧ OwnZ w' B v l.reverse ∧ Below B w w'

set_option maxRecDepth 100000 in
set_option maxHeartbeats 8000000 in
theorem reverse_any (B : Nat) (v : Value) (l : List Int) (w : World) (h : OwnZ w B v l) (hl : l.length ≤ 17592186043904) :
    Calls Try.prog 65 #[v] w (RevPost B v l w) := by
  by_cases h0 : l = []
  · subst h0
    have hv : ∃ ao c, v = .slice ao 0 c := by
      obtain ⟨ao, c, e, -⟩ := h.form
      exact ⟨ao, c, e⟩
    obtain ⟨ao, c, rfl⟩ := hv
    have H := Nu.hid h
    clear h
    go_enter Try.func65, Try.ntmps65
    go_wp2
    go_loopw [2, 3] (fun c d wr => c = .int .i64 0 ∧ d = .int .i64 (-1) ∧ wr = w) (fun _ _ _ => 0)
    case atStart => exact ⟨rfl, rfl, rfl⟩
    case round =>
      obtain ⟨rfl, rfl, hw⟩ := hrel
      obtain rfl := hw.symm
      go_wp2
      go_end0
      exact ⟨rfl, H.out, Below.refl _ _⟩
  · have hpos : 0 < l.length := List.length_pos_iff.2 h0
    have hv : ∃ g c, v = .slice (some ⟨g, 0, none⟩) l.length c := by
      rcases h.2 with ⟨_, h'⟩ | ⟨g, c, cur, h', _⟩
      · omega
      · exact ⟨g, c, h'⟩
    obtain ⟨g, c, rfl⟩ := hv
    have hgB := (World.ownsRow.lt h g rfl).1
    obtain ⟨n, hn⟩ : ∃ n, n = l.length := ⟨_, rfl⟩
    rw [← hn] at h hpos hl ⊢
    have H := Nu.hid h
    have HN := Nu.hid hn
    clear h hn h0
    go_enter Try.func65, Try.ntmps65
    go_wp2
    go_loopw [2, 3] (fun c2 d wr => ∃ i : Nat, 2 * i ≤ n ∧ c2 = .int .i64 (i : Int) ∧ d = .int .i64 ((n : Int) - 1 - (i : Int)) ∧ OwnZ wr B (.slice (some ⟨g, 0, none⟩) n c) (Ro.rev l i) ∧ Below B w wr) (fun c2 _ _ => n - (intOf c2).toNat)
    case atStart => exact ⟨0, by omega, rfl, by simp, H.out, Below.refl _ _⟩
    case round =>
      obtain ⟨i, hi, rfl, rfl, ho, hb⟩ := hrel
      have HO := Nu.hid ho
      have HB := Nu.hid hb
      clear ho hb
      by_cases hlt : (i : Int) < (n : Int) - 1 - (i : Int)
      · obtain ⟨j, hj⟩ : ∃ j : Nat, (n : Int) - 1 - (i : Int) = (j : Int) := ⟨n - 1 - i, by omega⟩
        have hjn : j < n := by omega
        have hij : i ≠ j := by omega
        have hje : j = n - 1 - i := by omega
        rw [hj] at hlt ⊢
        obtain ⟨x, hx⟩ : ∃ x, (Ro.rev l i)[i]? = some x := ⟨_, List.getElem?_eq_getElem (by rw [Ro.rev_len, ← HN.out]; omega)⟩
        obtain ⟨y, hy⟩ : ∃ y, (Ro.rev l i)[j]? = some y := ⟨_, List.getElem?_eq_getElem (by rw [Ro.rev_len, ← HN.out]; omega)⟩
        have c0 := HO.out.cellAt hx
        have c1 := HO.out.cellAt hy
        have f0 := HO.out.free i
        have hset := HO.out.set i y
        have c2' := hset.cellAt (i := j) (x := y) (by rw [List.getElem?_set, if_neg hij]; exact hy)
        have f1 := hset.free j
        have hset2 := hset.set j x
        have hxe := Ro.rev_at l i (by rw [← HN.out]; omega) i (by rw [← HN.out]; omega)
        have hye := Ro.rev_at l i (by rw [← HN.out]; omega) j (by rw [← HN.out]; omega)
        rw [← HN.out, if_neg (by omega), hx] at hxe
        rw [← HN.out, if_neg (by omega), hy] at hye
        have hstep : ((Ro.rev l i).set i y).set j x = Ro.rev l (i + 1) := by
          show _ = ((Ro.rev l i).set i (l.getD (l.length - 1 - i) 0)).set (l.length - 1 - i) (l.getD i 0)
          rw [← HN.out, ← hje, List.getD_eq_getElem?_getD, List.getD_eq_getElem?_getD, ← hxe, ← hye]
          rfl
        rw [hstep] at hset2
        have HS2 := Nu.hid hset2
        have hj0 : (0 : Int) ≤ (j : Int) := by omega
        have hi0 : (0 : Int) ≤ (i : Int) := by omega
        have hjn2 : (j : Int) < (n : Int) := by omega
        have hin2 : (i : Int) < (n : Int) := by omega
        have HJ := Nu.hid hj
        clear hset hset2 hx hy hxe hye hstep hje hj
        go_wp2_with fail
        go_big_region
        go_wp2
        go_roundw
        case rel =>
          have hj := HJ.out
          refine ⟨i + 1, by omega, by go_num, ?_, HS2.out, ?_⟩
          · congr 1
            omega
          · first | exact HB.out.trans ((below_setCell (g := g) (j := i) _ hgB).trans (below_setCell (g := g) _ hgB)) | exact (HB.out.trans ((below_setCell (g := g) (j := i) _ hgB).trans (below_setCell (g := g) _ hgB))).drew
        case measure => simp [intOf]; omega
      · have HE := Nu.hid (Ro.rev_all (l := l) (i := i) (by rw [← HN.out]; omega) (by rw [← HN.out]; omega))
        go_wp2
        go_end0
        refine ⟨rfl, ?_, HB.out⟩
        rw [← HE.out]
        exact HO.out

set_option maxRecDepth 100000 in
set_option maxHeartbeats 4000000 in
theorem clone11_any (ao : Option Addr) (n ca : Nat) (l : List Int) (w : World) (h : Lst w ao n ca l) (hn : n ≤ 17592186043904) :
    Calls Try.prog 64 #[.slice ao n ca] w (ListPost l w) := by
  have HR := Nu.hid h
  have hnil := fun w => Lib.run_eql_slice_nil (P := Try.prog) w 36 3 ao n ca 0 0 Try.underlying36
  rcases ao with _ | y
  · obtain ⟨rfl, rfl⟩ := h.none rfl
    have hl := List.length_eq_zero_iff.1 h.len
    subst hl
    clear h
    go_enter Try.func64, Try.ntmps64
    go_wp2
    go_ret
    exact ⟨_, rfl, OwnZ.nil _ _, Below.refl _ _⟩
  · have hlen := h.len
    clear h
    have HLEN := Nu.hid hlen
    clear hlen
    go_enter Try.func64, Try.ntmps64
    go_wp2_with (at_builtin; refine wpList_copy_lst rfl _ _ rfl w (some y) n ca l rfl rfl HR.out hn ?_; refine Hid.out ?_)
    refine Nu.hid ?_
    intro gb c w1 hrow hgb hlt hc hb
    have HX := Nu.hid hrow
    have HB := Nu.hid hb
    clear hrow hb hgb
    go_wp2
    go_ret
    refine ⟨_, rfl, ?_, HB.out⟩
    have hx := HX.out
    have e := HLEN.out
    subst e
    exact hx

set_option maxRecDepth 100000 in
set_option maxHeartbeats 4000000 in
theorem backward11_any (ao : Option Addr) (n ca : Nat) (l : List Int) (w : World) (h : Lst w ao n ca l) (hn : n ≤ 17592186043904) :
    Calls Try.prog 46 #[.slice ao n ca] w (ListPost l.reverse w) := by
  have HC := Nu.hid (clone11_any ao n ca l w h hn)
  have hll := h.len
  have HLL := Nu.hid hll
  clear h hll
  go_enter Try.func46, Try.ntmps46
  go_wp2_with (go_at_call 64; refine HC.out.mono ?_; refine Hid.out ?_)
  refine Nu.hid ?_
  rintro e w1 ⟨v, rfl, ho, hb⟩
  have HR := Nu.hid (reverse_any w.heap.size v l w1 ho (by have := HLL.out; omega))
  have HB := Nu.hid hb
  clear ho hb
  go_wp2_with (go_at_call 65; refine HR.out.mono ?_; refine Hid.out ?_)
  refine Nu.hid ?_
  rintro e w2 ⟨rfl, ho, hb⟩
  have HO := Nu.hid ho
  have HB2 := Nu.hid (HB.out.trans hb)
  clear ho hb
  go_wp2
  go_ret
  exact ⟨_, rfl, HO.out, HB2.out⟩

end Go.Proofs.Ytfkmldopfhdbkaa
