import Derived.Test.YtalfpbalekbinaaMg05
import Derived.Test.YtalfpbalekbinaaMg02
import Derived.Test.YtalfpbalekbinaaMg00
import Derived.Sort.Grow
import Derived.BigQuiet
import Derived.Deep.QuietTactic
import Derived.Deep.CutBlock
import Derived.Deep.CutRange
import Derived.Test.YtalfpbalekbinaaMg25
/-
  The document's small functions of layer 9: an edge's ends, a number's place in a list.
-/
namespace Go.Proofs.Ytalfpbalekbinaa
open Go.RowKit Go.Sort

set_option maxRecDepth 100000 in
set_option maxHeartbeats 1000000 in
theorem at9_any (a b v : Int) (w : World) : Calls Try.prog 34 #[.agg #[.int .i64 a, .int .i64 b], .int .i64 v] w fun e w' => e = .returned (.bool (decide (a = v ∨ b = v))) ∧ Below w.heap.size w w' := by
  have hbw0 : Below w.heap.size w (w.alloc (.cells #[.int .i64 a, .int .i64 b] 49)) := (Below.refl _ _).alloc (Nat.le_refl _) _
  have HB := Nu.hid hbw0
  clear hbw0
  by_cases h1 : a = v
  · rw [decide_eq_true (Or.inl h1 : a = v ∨ b = v)]
    have d1 : (a == v) = true := by simp [h1]
    clear h1
    go_enter Try.func34, Try.ntmps34
    go_wp2
    go_ret
    exact ⟨rfl, HB.out⟩
  · have d1 : (a == v) = false := by simp [h1]
    by_cases h2 : b = v
    · rw [decide_eq_true (Or.inr h2 : a = v ∨ b = v)]
      have d2 : (b == v) = true := by simp [h2]
      clear h1 h2
      go_enter Try.func34, Try.ntmps34
      go_wp2
      go_ret
      exact ⟨rfl, HB.out⟩
    · have d2 : (b == v) = false := by simp [h2]
      rw [decide_eq_false (fun h : a = v ∨ b = v => h.elim h1 h2)]
      go_enter Try.func34, Try.ntmps34
      go_wp2
      go_ret
      exact ⟨rfl, HB.out⟩

set_option maxRecDepth 100000 in
set_option maxHeartbeats 1000000 in
theorem other9_any (a b v : Int) (w : World) : Calls Try.prog 50 #[.agg #[.int .i64 a, .int .i64 b], .int .i64 v] w fun e w' => e = .returned (.int .i64 (if a = v then b else a)) ∧ Below w.heap.size w w' := by
  have hbw0 : Below w.heap.size w (w.alloc (.cells #[.int .i64 a, .int .i64 b] 49)) := (Below.refl _ _).alloc (Nat.le_refl _) _
  have HB := Nu.hid hbw0
  clear hbw0
  by_cases h1 : a = v
  · rw [if_pos h1]
    have d1 : (a == v) = true := by simp [h1]
    clear h1
    go_enter Try.func50, Try.ntmps50
    go_wp2
    go_ret
    exact ⟨rfl, HB.out⟩
  · rw [if_neg h1]
    have d1 : (a == v) = false := by simp [h1]
    go_enter Try.func50, Try.ntmps50
    go_wp2
    go_ret
    exact ⟨rfl, HB.out⟩

/-- Where a number first stands in a list, or -1. -/
def Bl.place : List Int → Int → Int
  | [], _ => -1
  | y :: l, x => if y = x then 0 else if Bl.place l x = -1 then -1 else Bl.place l x + 1
/-- As the loop finds it. -/
theorem Bl.place_at : ∀ {l : List Int} {x : Int} {i : Nat}, l[i]? = some x → (∀ j : Nat, j < i → l[j]? ≠ some x) → Bl.place l x = (i : Int)
  | [], x, i, h, _ => by simp at h
  | y :: l, x, 0, h, _ => by
    have : y = x := by simpa using h
    unfold Bl.place
    rw [if_pos this]
    rfl
  | y :: l, x, i + 1, h, hn => by
    have hy : y ≠ x := fun e => hn 0 (by omega) (by simp [e])
    have := Bl.place_at (l := l) (x := x) (i := i) (by simpa using h) (fun j hj => by simpa using hn (j + 1) (by omega))
    unfold Bl.place
    rw [if_neg hy, this, if_neg (by omega)]
    omega
theorem Bl.place_not : ∀ {l : List Int} {x : Int}, (∀ j : Nat, l[j]? ≠ some x) → Bl.place l x = -1
  | [], x, _ => rfl
  | y :: l, x, hn => by
    have hy : y ≠ x := fun e => hn 0 (by simp [e])
    have := Bl.place_not (l := l) (x := x) (fun j => by simpa using hn (j + 1))
    unfold Bl.place
    rw [if_neg hy, this, if_pos rfl]

set_option maxRecDepth 100000 in
set_option maxHeartbeats 4000000 in
theorem place9_any (ao : Option Addr) (c : Nat) (l : List Int) (x : Int) (w : World) (h : IntsAt w ao l) (hn : l.length ≤ 4194304) : Calls Try.prog 35 #[.slice ao l.length c, .int .i64 x] w fun e w' => e = .returned (.int .i64 (Bl.place l x)) ∧ w' = w := by
  have HR := Nu.hid h
  clear h
  go_enter Try.func35, Try.ntmps35
  go_wp2
  go_loopw [5] (fun cv wr => ∃ k : Nat, k ≤ l.length ∧ cv = .int .i64 (k : Int) ∧ (∀ j : Nat, j < k → l[j]? ≠ some x) ∧ wr = w) (fun cv _ => l.length - (intOf cv).toNat)
  case atStart => exact ⟨0, Nat.zero_le _, rfl, fun j hj => by omega, rfl⟩
  case round =>
    obtain ⟨k, hk, rfl, hq, hwr⟩ := hrel
    obtain rfl := hwr.symm
    have HQ := Nu.hid hq
    clear hwr hq
    by_cases hkn : k < l.length
    · have hlti : (k : Int) < (l.length : Int) := by omega
      have hk0 : (0 : Int) ≤ (k : Int) := by omega
      obtain ⟨y, hy⟩ : ∃ y, l[k]? = some y := ⟨_, List.getElem?_eq_getElem hkn⟩
      obtain ⟨b, o, rfl, c0⟩ := HR.out k y hy
      by_cases he : y = x
      · have hd : (y == x) = true := by simp [he]
        have HP := Nu.hid (Bl.place_at (by rw [hy, he]) HQ.out)
        clear hy he
        go_wp2
        go_ret
        exact ⟨by rw [HP.out]; rfl, rfl⟩
      · have hd : (y == x) = false := by simp [he]
        have HN : Hid (∀ j : Nat, j < k + 1 → l[j]? ≠ some x) := by
          intro j hj
          by_cases e : j = k
          · rw [e, hy]
            simpa using he
          · exact HQ.out j (by omega)
        clear hy he
        go_wp2
        go_roundw
        case rel => exact ⟨k + 1, by omega, by go_num, HN.out, by first | rfl | trivial⟩
        case measure => simp [intOf]; omega
    · have hlti : ¬ (k : Int) < (l.length : Int) := by omega
      have HP := Nu.hid (Bl.place_not (l := l) (x := x) (fun j => by
        by_cases e : j < k
        · exact HQ.out j e
        · rw [List.getElem?_eq_none (by omega)]
          simp))
      go_wp2
      go_ret
      exact ⟨by rw [HP.out]; rfl, rfl⟩

end Go.Proofs.Ytalfpbalekbinaa

/-
  The document's Parts: what hangs together without one vertex.
-/
namespace Go.Proofs.Ytalfpbalekbinaa
open Go.RowKit Go.Sort

/-- The number in a cell, none below 0. -/
def Bl.cellN (w : World) (g i : Nat) : Nat :=
  match w.cell? ⟨g, i, none⟩ with
  | some (.int _ z) => z.toNat
  | _ => 0
theorem Bl.cellN_tot {w : World} {g n : Nat} {l : List Int} (h : IntsBlk w g l) (hl : l.length = n) : Bl.tot (Bl.cellN w g) n = Bl.tot (Bl.val l) n := Bl.tot_congr n fun i hi => by
  obtain ⟨x, hx⟩ : ∃ x, l[i]? = some x := ⟨_, List.getElem?_eq_getElem (by omega)⟩
  unfold Bl.cellN
  rw [h.cell hx, Bl.val_at hx]
def Bl.boolN : Value → Nat
  | .bool true => 1
  | _ => 0

def PartsPost (n : Nat) (es : List (Int × Int)) (v : Int) (w : World) (e : Ending) (w' : World) : Prop :=
  ∃ (l : List Int) (g : Nat), e = .returned (.slice (some ⟨g, 0, none⟩) n n) ∧ w.heap.size ≤ g ∧ IntsBlk w' g l ∧ Bl.LabE n es v l ∧ Bl.Quiet es v l es.length ∧ Below w.heap.size w w'

set_option maxRecDepth 100000 in
set_option maxHeartbeats 16000000 in
theorem parts_any (n : Nat) (ao : Option Addr) (cap : Nat) (es : List (Int × Int)) (v : Int) (w : World) (he : EdgesAt w ao es) (hval : Si.Val n es) (hv1 : -1 ≤ v) (hv2 : v < (n : Int)) :
    Calls Try.prog 49 #[graphVal n ao es.length cap, .int .i64 v] w (PartsPost n es v w) := by
  obtain ⟨i0, hi, hz0, hz1, hz2⟩ := info_parts Try.infoNum
  have HE := Nu.hid he
  have hfew := hval.few
  have hhi := hval.hi
  have HVAL := Nu.hid hval
  unfold graphVal
  clear he hval
  have hbw0 : Below w.heap.size w (w.alloc (.cells #[.int .i64 n, .slice ao es.length cap] 24)) := (Below.refl _ _).alloc (Nat.le_refl _) _
  have hG : (w.alloc (.cells #[.int .i64 n, .slice ao es.length cap] 24)).heap[w.heap.size]? = some (.cells #[.int .i64 n, .slice ao es.length cap] 24 (0, 0)) := heap_alloc_new w _
  have hsz : (w.alloc (.cells #[.int .i64 n, .slice ao es.length cap] 24)).heap.size = w.heap.size + 1 := by simp
  obtain ⟨x0, x1, -⟩ := pair_cells hG
  obtain ⟨w1, hw1⟩ : ∃ w1, w1 = w.alloc (.cells #[.int .i64 n, .slice ao es.length cap] 24) := ⟨_, rfl⟩
  rw [← hw1] at hbw0 hG hsz
  have HB1 := Nu.hid hbw0
  have HG1 := Nu.hid hG
  have HW1 := Nu.hid hw1
  clear hbw0 hG hw1
  go_enter Try.func49, Try.ntmps49
  go_wp2_with (at_make; rw [← HW1.out]; refine wpList_make_full _ rfl _ _ 26 rfl w1.heap.size 3 i0 (.int .i64 0) 1 Try.underlying26 hi hz0 hz1 _ _ _ _ n rfl rfl rfl rfl (by rw [hz2]; omega) (by unfold maxLen; omega) (Nat.le_refl _) ?_; refine Hid.out ?_)
  refine Nu.hid ?_
  intro w2 hrow hg2
  rw [made_zeros] at hrow
  have hik := ints_of_row hrow
  rw [← Bl.beg_zero] at hik
  have hb2 : Below w1.heap.size w1 w2 := (Below.refl _ _).grown hg2 (Nat.le_refl _) (fun j hj => by cases hj)
  have HB2 := Nu.hid (HB1.out.trans (hb2.mono HB1.out.size))
  have HG2 := Nu.hid ((hb2.block _ (by omega)).trans HG1.out)
  have HI2 := Nu.hid hik
  have hs2 := hik.lt
  clear hrow hg2 hik hb2 x0 x1
  go_wp2
  go_loopw [6] (fun cv wr => ∃ k : Nat, k ≤ n ∧ cv = .int .i64 (k : Int) ∧ IntsBlk wr (w.heap.size + 1) (Bl.beg n k) ∧ wr.heap[w.heap.size]? = some (.cells #[.int .i64 n, .slice ao es.length cap] 24 (0, 0)) ∧ Below w.heap.size w wr) (fun cv _ => n - (intOf cv).toNat)
  case atStart => exact ⟨0, Nat.zero_le _, rfl, HI2.out, HG2.out, HB2.out⟩
  case round =>
    obtain ⟨k, hk, rfl, hI, hg, hb⟩ := hrel
    have HI := Nu.hid hI
    have HG := Nu.hid hg
    have HB := Nu.hid hb
    obtain ⟨x0, x1, -⟩ := pair_cells hg
    have hsl := hI.lt
    have cf := hI.free
    by_cases hkn : k < n
    · have hlti : (k : Int) < (n : Int) := by omega
      have hk0 : (0 : Int) ≤ (k : Int) := by omega
      have cc := hI.cell (Bl.beg_at (k := k) hkn)
      have n1 := hI.set k (k : Int)
      rw [Bl.beg_set hkn] at n1
      have HN := Nu.hid n1
      have HGN : Hid ((wr.setCell ⟨(w.heap.size + 1), k, none⟩ (.int .i64 (k : Int))).heap[w.heap.size]? = some (.cells #[.int .i64 n, .slice ao es.length cap] 24 (0, 0))) := (heap_setCell_other wr ⟨(w.heap.size + 1), k, none⟩ w.heap.size _ (by show w.heap.size ≠ (w.heap.size + 1); omega)).trans hg
      have HBN := Nu.hid (hb.setCell (p := ⟨(w.heap.size + 1), k, none⟩) (by show w.heap.size ≤ (w.heap.size + 1); omega) (.int .i64 (k : Int)))
      clear hI hg hb n1
      go_wp2
      go_roundw
      case rel => exact ⟨k + 1, by omega, by go_num, HN.out, HGN.out, HBN.out⟩
      case measure => simp [intOf]; omega
    · have hlti : ¬ (k : Int) < (n : Int) := by omega
      obtain rfl : k = n := by omega
      clear hI hg hb
      go_upto_if 25 with fail
      go_cut [5] from 25 to 28 (fun x wr => x = .slice (some ⟨w.heap.size + 1, 0, none⟩) k k ∧ IntsBlk wr (w.heap.size + 1) (Bl.begV k v) ∧ wr.heap[w.heap.size]? = some (.cells #[.int .i64 k, .slice ao es.length cap] 24 (0, 0)) ∧ Below w.heap.size w wr)
      case first =>
        by_cases hv0 : 0 ≤ v
        · obtain ⟨u, rfl⟩ : ∃ u : Nat, v = (u : Int) := ⟨v.toNat, by omega⟩
          have hu : u < k := by omega
          have n1 := HI.out.set u (-1)
          have HBV : Hid (Bl.begV k (u : Int) = (Bl.beg k k).set u (-1)) := by
            show Bl.begV k (u : Int) = _
            unfold Bl.begV
            rw [if_pos hv0, Int.toNat_natCast]
          have cc := HI.out.cell (Bl.beg_at (k := k) hu)
          have HN := Nu.hid n1
          have HGN : Hid ((wr.setCell ⟨w.heap.size + 1, u, none⟩ (.int .i64 (-1))).heap[w.heap.size]? = some (.cells #[.int .i64 k, .slice ao es.length cap] 24 (0, 0))) := (heap_setCell_other wr ⟨w.heap.size + 1, u, none⟩ w.heap.size _ (by show w.heap.size ≠ w.heap.size + 1; omega)).trans HG.out
          have HBN := Nu.hid (HB.out.setCell (p := ⟨w.heap.size + 1, u, none⟩) (by show w.heap.size ≤ w.heap.size + 1; omega) (.int .i64 (-1)))
          clear n1
          go_wp2
          go_meet
          exact ⟨rfl, by rw [HBV.out]; exact HN.out, HGN.out, HBN.out⟩
        · have HBV : Hid (Bl.begV k v = Bl.beg k k) := by
            show Bl.begV k v = _
            unfold Bl.begV
            rw [if_neg hv0]
          go_wp2
          go_meet
          exact ⟨rfl, by rw [HBV.out]; exact HI.out, HG.out, HB.out⟩
      case rest =>
        obtain ⟨rfl, hI, hg, hb⟩ := hcut
        have HI3 := Nu.hid hI
        have HG3 := Nu.hid hg
        have HB3 := Nu.hid hb
        clear hI hg hb HI HG HB cf x0 x1
        go_wp2
        go_loopw [7] (fun cb wr => ∃ (ch : Bool) (l : List Int), cb = .bool ch ∧ IntsBlk wr (w.heap.size + 1) l ∧ Bl.LabE k es v l ∧ (ch = false → Bl.Quiet es v l es.length) ∧ wr.heap[w.heap.size]? = some (.cells #[.int .i64 k, .slice ao es.length cap] 24 (0, 0)) ∧ Below w.heap.size w wr) (fun cb wr => 2 * Bl.tot (Bl.cellN wr (w.heap.size + 1)) k + Bl.boolN cb)
        case atStart => exact ⟨true, _, rfl, HI3.out, Bl.begV_lab, fun h => (by cases h), HG3.out, HB3.out⟩
        case round =>
          obtain ⟨ch, l0, rfl, hI0, hL0, hQ0, hg0, hb0⟩ := hrel
          obtain ⟨w0, rfl⟩ : ∃ w0, w0 = wr := ⟨wr, rfl⟩
          have HI0 := Nu.hid hI0
          have HL0 := Nu.hid hL0
          have HQ0 := Nu.hid hQ0
          have HG0 := Nu.hid hg0
          have HB0 := Nu.hid hb0
          cases ch with
          | false =>
            clear hI0 hL0 hQ0 hg0 hb0
            go_wp2
            go_ret
            exact ⟨l0, w.heap.size + 1, rfl, by omega, HI0.out, HL0.out, HQ0.out (by first | rfl | trivial), HB0.out⟩
          | true =>
            clear hI0 hL0 hQ0 hg0 hb0
            go_wp2
            go_loopw [7, 8] (fun cb cv wr => ∃ (i : Nat) (ch : Bool) (l : List Int), i ≤ es.length ∧ cv = .int .i64 (i : Int) ∧ cb = .bool ch ∧ IntsBlk wr (w.heap.size + 1) l ∧ Bl.PassE k es v l0 l i ch ∧ wr.heap[w.heap.size]? = some (.cells #[.int .i64 k, .slice ao es.length cap] 24 (0, 0)) ∧ Below w.heap.size w wr) (fun _ cv _ => es.length - (intOf cv).toNat)
            case atStart => exact ⟨0, false, l0, Nat.zero_le _, rfl, rfl, HI0.out, Bl.PassE.start HL0.out, HG0.out, HB0.out⟩
            case round =>
              obtain ⟨i, ch, l, hi', rfl, rfl, hI, hP, hg, hb⟩ := hrel
              have HI := Nu.hid hI
              have HP := Nu.hid hP
              have HG := Nu.hid hg
              have HB := Nu.hid hb
              obtain ⟨x0, x1, -⟩ := pair_cells hg
              by_cases hlt : i < es.length
              · have hlti : (i : Int) < (es.length : Int) := by omega
                have hi0' : (0 : Int) ≤ (i : Int) := by omega
                obtain ⟨q, hq⟩ : ∃ q, es[i]? = some q := ⟨_, List.getElem?_eq_getElem hlt⟩
                have hok := HVAL.out.each i q hq
                unfold Si.ok at hok
                obtain ⟨b, o, rfl, c0, c1⟩ := (HE.out.later hb) i q hq
                have hmem := List.mem_of_getElem? hq
                obtain ⟨qu, qv⟩ := q
                dsimp only at c0 c1 hok
                obtain ⟨u, rfl⟩ : ∃ u : Nat, qu = (u : Int) := ⟨qu.toNat, by omega⟩
                obtain ⟨y, rfl⟩ : ∃ y : Nat, qv = (y : Int) := ⟨qv.toNat, by omega⟩
                have hum : u < k := by omega
                have hym : y < k := by omega
                have hll := hP.lab.len
                obtain ⟨a, ha⟩ : ∃ a, l[u]? = some a := ⟨_, List.getElem?_eq_getElem (by omega)⟩
                obtain ⟨d, hd⟩ : ∃ d, l[y]? = some d := ⟨_, List.getElem?_eq_getElem (by omega)⟩
                have cu := hI.cell ha
                have cy := hI.cell hd
                have cf := hI.free
                have u0 : (0 : Int) ≤ (u : Int) := by omega
                have u1 : (u : Int) < (k : Int) := by omega
                have v0 : (0 : Int) ≤ (y : Int) := by omega
                have v1 : (y : Int) < (k : Int) := by omega
                by_cases h1 : (u : Int) = v
                · have d1 : ((u : Int) == v) = true := by simp [h1]
                  have HP1 := Nu.hid (hP.skip hq (.inl h1))
                  clear hI hP hg hb hq hok hmem ha hd h1
                  go_wp2_with fail
                  go_quiet (fail)
                  go_wp2
                  go_roundw
                  case rel => exact ⟨i + 1, ch, l, by omega, by go_num, rfl, HI.out, HP1.out, HG.out, below_drewN HB.out _⟩
                  case measure => simp [intOf]; omega
                · have d1 : ((u : Int) == v) = false := by simp [h1]
                  by_cases h2 : (y : Int) = v
                  · have d2 : ((y : Int) == v) = true := by simp [h2]
                    have HP1 := Nu.hid (hP.skip hq (.inr (.inl h2)))
                    clear hI hP hg hb hq hok hmem ha hd h1 h2
                    go_wp2_with fail
                    go_quiet (fail)
                    go_wp2
                    go_roundw
                    case rel => exact ⟨i + 1, ch, l, by omega, by go_num, rfl, HI.out, HP1.out, HG.out, below_drewN HB.out _⟩
                    case measure => simp [intOf]; omega
                  · have d2 : ((y : Int) == v) = false := by simp [h2]
                    have hc := Bl.ConnE.edge hmem h1 h2
                    rcases Int.lt_trichotomy a d with h3 | h3 | h3
                    · have d3 : (a == d) = false := by simp; omega
                      have HP1 := Nu.hid (hP.put hym hum h2 h1 hc.symm hd ha h3)
                      have HN1 := Nu.hid (hI.set y a)
                      have HG1 : Hid ((wr.setCell ⟨w.heap.size + 1, y, none⟩ (.int .i64 a)).heap[w.heap.size]? = some (.cells #[.int .i64 k, .slice (some ⟨b, o, none⟩) es.length cap] 24 (0, 0))) := (heap_setCell_other wr ⟨w.heap.size + 1, y, none⟩ w.heap.size _ (by show w.heap.size ≠ w.heap.size + 1; omega)).trans hg
                      have HB1' := Nu.hid (hb.setCell (p := ⟨w.heap.size + 1, y, none⟩) (by show w.heap.size ≤ w.heap.size + 1; omega) (.int .i64 a))
                      clear hI hP hg hb hq hok hmem ha hd h1 h2 hc
                      go_wp2_with fail
                      go_quiet (fail)
                      go_wp2_with fail
                      go_quiet (fail)
                      go_wp2
                      go_roundw
                      case rel => exact ⟨i + 1, true, _, by omega, by go_num, rfl, HN1.out, HP1.out, HG1.out, by first | exact HB1'.out | exact below_drewN HB1'.out _ | exact (below_drewN HB.out _).setCell (by show w.heap.size ≤ w.heap.size + 1; omega) _ | exact below_drewN ((below_drewN HB.out _).setCell (by show w.heap.size ≤ w.heap.size + 1; omega) _) _⟩
                      case measure => simp [intOf]; omega
                    · have d3 : (a == d) = true := by simp [h3]
                      have HP1 := Nu.hid (hP.skip hq (.inr (.inr (by dsimp only; rw [Int.toNat_natCast, Int.toNat_natCast, ha, hd, h3]))))
                      clear hI hP hg hb hq hok hmem ha hd h1 h2 hc h3
                      go_wp2_with fail
                      go_quiet (fail)
                      go_wp2
                      go_roundw
                      case rel => exact ⟨i + 1, ch, l, by omega, by go_num, rfl, HI.out, HP1.out, HG.out, below_drewN HB.out _⟩
                      case measure => simp [intOf]; omega
                    · have d3 : (a == d) = false := by simp; omega
                      have d4 : ¬ a < d := by omega
                      have HP1 := Nu.hid (hP.put hum hym h1 h2 hc ha hd h3)
                      have HN1 := Nu.hid (hI.set u d)
                      have HG1 : Hid ((wr.setCell ⟨w.heap.size + 1, u, none⟩ (.int .i64 d)).heap[w.heap.size]? = some (.cells #[.int .i64 k, .slice (some ⟨b, o, none⟩) es.length cap] 24 (0, 0))) := (heap_setCell_other wr ⟨w.heap.size + 1, u, none⟩ w.heap.size _ (by show w.heap.size ≠ w.heap.size + 1; omega)).trans hg
                      have HB1' := Nu.hid (hb.setCell (p := ⟨w.heap.size + 1, u, none⟩) (by show w.heap.size ≤ w.heap.size + 1; omega) (.int .i64 d))
                      clear hI hP hg hb hq hok hmem ha hd h1 h2 hc
                      go_wp2_with fail
                      go_quiet (fail)
                      go_wp2_with fail
                      go_quiet (fail)
                      go_wp2
                      go_roundw
                      case rel => exact ⟨i + 1, true, _, by omega, by go_num, rfl, HN1.out, HP1.out, HG1.out, by first | exact HB1'.out | exact below_drewN HB1'.out _ | exact (below_drewN HB.out _).setCell (by show w.heap.size ≤ w.heap.size + 1; omega) _ | exact below_drewN ((below_drewN HB.out _).setCell (by show w.heap.size ≤ w.heap.size + 1; omega) _) _⟩
                      case measure => simp [intOf]; omega
              · have hd : ¬ ((i : Int) < (es.length : Int)) := by omega
                have HNO : Hid (ch = false → Bl.Quiet es v l es.length) := fun h => by
                  have := hP.no h
                  have e : i = es.length := by omega
                  rw [e] at this
                  exact this
                clear hI hP hg hb
                go_wp2
                go_roundw
                case rel => exact ⟨ch, l, rfl, HI.out, HP.out.lab, HNO.out, HG.out, HB.out⟩
                case measure =>
                  rw [Bl.cellN_tot HI.out HP.out.lab.len, Bl.cellN_tot HI0.out HL0.out.len]
                  have h1 := HP.out.less
                  have h2 := HP.out.yes
                  cases ch
                  · simp [Bl.boolN]; omega
                  · have := h2 rfl
                    simp [Bl.boolN]
                    omega
end Go.Proofs.Ytalfpbalekbinaa
