import Derived.Test.YtalfpbalekbinaaMg25
/-
  The document's join of classes, and how many edges a vertex has.
-/
namespace Go.Proofs.Ytalfpbalekbinaa
open Go.RowKit Go.Sort

namespace Bl
/-- The first n values of f. -/
def nums (n : Nat) (f : Nat → Nat) : List Int := (List.range n).map fun i => (f i : Int)
theorem nums_length (n : Nat) (f : Nat → Nat) : (nums n f).length = n := by simp [nums]
theorem nums_at {n i : Nat} {f : Nat → Nat} (h : i < n) : (nums n f)[i]? = some (f i : Int) := by
  unfold nums
  rw [List.getElem?_map, List.getElem?_range h]
  rfl
theorem nums_congr {n : Nat} {f g : Nat → Nat} (h : ∀ i, i < n → f i = g i) : nums n f = nums n g := by
  unfold nums
  exact List.map_congr_left fun i hi => by rw [h i (List.mem_range.1 hi)]
theorem nums_set {n i : Nat} {f : Nat → Nat} (x : Nat) (hi : i < n) : (nums n f).set i (x : Int) = nums n (Co.upd f i x) := by
  refine List.ext_getElem? fun j => ?_
  by_cases hj : j < n
  · by_cases e : i = j
    · subst e
      rw [List.getElem?_set_self (by rw [nums_length]; exact hi), nums_at hj, Co.upd_same]
    · rw [List.getElem?_set_ne e, nums_at hj, nums_at hj, Co.upd_other _ (fun h => e h.symm)]
  · rw [List.getElem?_eq_none (by rw [List.length_set, nums_length]; omega), List.getElem?_eq_none (by rw [nums_length]; omega)]

/-- How many edges end at v. -/
def degE (es : List (Int × Int)) (v : Int) : Nat := (es.filter fun p => decide (p.1 = v ∨ p.2 = v)).length
theorem degE_le (es : List (Int × Int)) (v : Int) : degE es v ≤ es.length := List.length_filter_le _ _
theorem degE_snoc_yes {es : List (Int × Int)} {v : Int} {p : Int × Int} (h : p.1 = v ∨ p.2 = v) : degE (es ++ [p]) v = degE es v + 1 := by
  unfold degE
  rw [List.filter_append, List.length_append, List.filter_cons_of_pos (by simpa using h)]
  rfl
theorem degE_snoc_no {es : List (Int × Int)} {v : Int} {p : Int × Int} (h : ¬ (p.1 = v ∨ p.2 = v)) : degE (es ++ [p]) v = degE es v := by
  unfold degE
  rw [List.filter_append, List.length_append, List.filter_cons_of_neg (by simpa using h)]
  rfl
/-- Two edges that end at v. -/
theorem two_degE {es : List (Int × Int)} {v : Int} {i k : Nat} {p q : Int × Int} (hik : i < k) (hp : es[i]? = some p) (hq : es[k]? = some q) (h1 : p.1 = v ∨ p.2 = v) (h2 : q.1 = v ∨ q.2 = v) : 2 ≤ degE es v := by
  have e : es = es.take k ++ es.drop k := (List.take_append_drop k es).symm
  have a1 : 1 ≤ degE (es.take k) v := List.length_pos_of_mem (a := p) (List.mem_filter.2 ⟨List.mem_of_getElem? (i := i) (by rw [List.getElem?_take, if_pos hik]; exact hp), by simpa using h1⟩)
  have a2 : 1 ≤ degE (es.drop k) v := List.length_pos_of_mem (a := q) (List.mem_filter.2 ⟨List.mem_of_getElem? (i := 0) (by rw [List.getElem?_drop]; exact hq), by simpa using h2⟩)
  have e2 : degE es v = degE (es.take k) v + degE (es.drop k) v := by
    conv => lhs; rw [e]
    unfold degE
    rw [List.filter_append, List.length_append]
  omega
end Bl

set_option maxRecDepth 100000 in
set_option maxHeartbeats 8000000 in
theorem rdegree_any (n : Int) (ao : Option Addr) (cap : Nat) (es : List (Int × Int)) (v : Int) (w : World) (he : EdgesAt w ao es) (hfew : es.length ≤ 4194304) :
    Calls Try.prog 48 #[graphVal n ao es.length cap, .int .i64 v] w fun e w' => e = .returned (.int .i64 (Bl.degE es v : Int)) ∧ Below w.heap.size w w' := by
  have HE := Nu.hid he
  unfold graphVal
  clear he
  have hbw0 : Below w.heap.size w (w.alloc (.cells #[.int .i64 n, .slice ao es.length cap] 24)) := (Below.refl _ _).alloc (Nat.le_refl _) _
  have hG : (w.alloc (.cells #[.int .i64 n, .slice ao es.length cap] 24)).heap[w.heap.size]? = some (.cells #[.int .i64 n, .slice ao es.length cap] 24 (0, 0)) := heap_alloc_new w _
  have HB1 := Nu.hid hbw0
  have HG1 := Nu.hid hG
  clear hbw0 hG
  go_enter Try.func48, Try.ntmps48
  go_wp2
  go_loopw [5, 6] (fun cn cv wr => ∃ i : Nat, i ≤ es.length ∧ cv = .int .i64 (i : Int) ∧ cn = .int .i64 (Bl.degE (es.take i) v : Int) ∧ wr.heap[w.heap.size]? = some (.cells #[.int .i64 n, .slice ao es.length cap] 24 (0, 0)) ∧ Below w.heap.size w wr) (fun _ cv _ => es.length - (intOf cv).toNat)
  case atStart => exact ⟨0, Nat.zero_le _, rfl, rfl, HG1.out, HB1.out⟩
  case round =>
    obtain ⟨i, hi', rfl, rfl, hg, hb⟩ := hrel
    have HG := Nu.hid hg
    have HB := Nu.hid hb
    obtain ⟨x0, x1, -⟩ := pair_cells hg
    have hle := Bl.degE_le (es.take i) v
    rw [List.length_take] at hle
    by_cases hlt : i < es.length
    · have hlti : (i : Int) < (es.length : Int) := by omega
      have hi0' : (0 : Int) ≤ (i : Int) := by omega
      obtain ⟨q, hq⟩ : ∃ q, es[i]? = some q := ⟨_, List.getElem?_eq_getElem hlt⟩
      obtain ⟨b, o, rfl, c0, c1⟩ := (HE.out.later hb) i q hq
      have htk := Si.take_snoc hq
      obtain ⟨qu, qv⟩ := q
      dsimp only at c0 c1
      have hle2 : Bl.degE (es.take i) v ≤ i := by omega
      clear hle
      obtain ⟨D, hD⟩ : ∃ D, Bl.degE (es.take i) v = D := ⟨_, rfl⟩
      rw [hD] at hle2 ⊢
      by_cases h1 : qu = v
      · have d1 : (qu == v) = true := by simp [h1]
        have HD : Hid (Bl.degE (es.take (i + 1)) v = D + 1) := by
          show Bl.degE (es.take (i + 1)) v = D + 1
          rw [htk, Bl.degE_snoc_yes (.inl h1), hD]
        clear hg hb hq htk hD h1
        go_wp2
        go_roundw
        case rel => exact ⟨i + 1, by omega, by go_num, by rw [HD.out]; go_num, HG.out, HB.out⟩
        case measure => simp [intOf]; omega
      · have d1 : (qu == v) = false := by simp [h1]
        by_cases h2 : qv = v
        · have d2 : (qv == v) = true := by simp [h2]
          have HD : Hid (Bl.degE (es.take (i + 1)) v = D + 1) := by
            show Bl.degE (es.take (i + 1)) v = D + 1
            rw [htk, Bl.degE_snoc_yes (.inr h2), hD]
          clear hg hb hq htk hD h1 h2
          go_wp2
          go_roundw
          case rel => exact ⟨i + 1, by omega, by go_num, by rw [HD.out]; go_num, HG.out, HB.out⟩
          case measure => simp [intOf]; omega
        · have d2 : (qv == v) = false := by simp [h2]
          have HD : Hid (Bl.degE (es.take (i + 1)) v = D) := by
            show Bl.degE (es.take (i + 1)) v = D
            rw [htk, Bl.degE_snoc_no (fun h => h.elim h1 h2), hD]
          clear hg hb hq htk hD h1 h2
          go_wp2
          go_roundw
          case rel => exact ⟨i + 1, by omega, by go_num, by rw [HD.out], HG.out, HB.out⟩
          case measure => simp [intOf]; omega
    · have hd : ¬ ((i : Int) < (es.length : Int)) := by omega
      have HD : Hid (es.take i = es) := List.take_of_length_le (by omega)
      clear hg hb hle
      go_wp2
      go_ret
      exact ⟨by rw [HD.out]; rfl, HB.out⟩

set_option maxRecDepth 100000 in
set_option maxHeartbeats 8000000 in
theorem join9_any (g n : Nat) (m : Nat → Nat) (a b : Nat) (w : World) (h : IntsBlk w g (Bl.nums n m)) (ha : a < n) (hb : b < n) (hn : n ≤ 4194304) :
    Calls Try.prog 51 #[.slice (some ⟨g, 0, none⟩) n n, .int .i64 (a : Int), .int .i64 (b : Int)] w fun e w' => e = .returned (.slice (some ⟨g, 0, none⟩) n n) ∧ IntsBlk w' g (Bl.nums n (Co.join m a b)) ∧ Wrote (fun k => k = g) w w' := by
  have c0 := h.cell (Bl.nums_at (f := m) ha)
  have c1 := h.cell (Bl.nums_at (f := m) hb)
  have a0 : (0 : Int) ≤ (a : Int) := by omega
  have a1 : (a : Int) < (n : Int) := by omega
  have b0 : (0 : Int) ≤ (b : Int) := by omega
  have b1 : (b : Int) < (n : Int) := by omega
  have HI := Nu.hid h
  have HW := Nu.hid (Wrote.refl (fun k => k = g) w)
  clear h
  go_enter Try.func51, Try.ntmps51
  go_upto_if 20 with fail
  go_cut [7, 8] from 20 to 22 (fun x y wr => x = .int .i64 ((min (m a) (m b) : Nat) : Int) ∧ y = .int .i64 ((max (m a) (m b) : Nat) : Int) ∧ IntsBlk wr g (Bl.nums n m) ∧ Wrote (fun k => k = g) w wr)
  case first =>
    by_cases hlt : m b < m a
    · have hlti : (m b : Int) < (m a : Int) := by omega
      go_wp2
      go_meet
      exact ⟨by rw [Nat.min_eq_right (by omega)], by rw [Nat.max_eq_left (by omega)], HI.out, by first | exact HW.out | exact HW.out.drewN _⟩
    · have hlti : ¬ (m b : Int) < (m a : Int) := by omega
      go_wp2
      go_meet
      exact ⟨by rw [Nat.min_eq_left (by omega)], by rw [Nat.max_eq_right (by omega)], HI.out, by first | exact HW.out | exact HW.out.drewN _⟩
  case rest =>
    obtain ⟨rfl, rfl, hic, hwc⟩ := hcut
    obtain ⟨lo, hlo⟩ : ∃ lo, min (m a) (m b) = lo := ⟨_, rfl⟩
    obtain ⟨hg, hhg⟩ : ∃ hg, max (m a) (m b) = hg := ⟨_, rfl⟩
    have HJF : Hid (∀ i, Co.join m a b i = if m i = hg then lo else m i) := by
      intro i
      rw [← hlo, ← hhg]
      rfl
    rw [hlo, hhg]
    have HIC := Nu.hid hic
    have HWC := Nu.hid hwc
    clear hlo hhg hic hwc c0 c1
    go_wp2
    go_loopw [9] (fun cv wr => ∃ (j : Nat) (F : Nat → Nat), j ≤ n ∧ cv = .int .i64 (j : Int) ∧ (∀ i, i < j → F i = Co.join m a b i) ∧ (∀ i, j ≤ i → F i = m i) ∧ IntsBlk wr g (Bl.nums n F) ∧ Wrote (fun k => k = g) w wr) (fun cv _ => n - (intOf cv).toNat)
    case atStart => exact ⟨0, m, Nat.zero_le _, rfl, fun i hi => by omega, fun _ _ => rfl, HIC.out, HWC.out⟩
    case round =>
      obtain ⟨j, F, hj, rfl, hF1, hF2, hin, hb⟩ := hrel
      have HF1 := Nu.hid hF1
      have HF2 := Nu.hid hF2
      have HI := Nu.hid hin
      have HB := Nu.hid hb
      by_cases hlt : j < n
      · have hlti : (j : Int) < (n : Int) := by omega
        have hj0 : (0 : Int) ≤ (j : Int) := by omega
        have c0 := hin.cell (Bl.nums_at (f := F) hlt)
        rw [hF2 j (Nat.le_refl _)] at c0
        have cf := hin.free
        have hjf := HJF.out j
        by_cases hm : m j = hg
        · have hd : ((m j : Int) == (hg : Int)) = true := by simp [hm]
          rw [if_pos hm] at hjf
          have n1 := hin.set j (lo : Int)
          rw [Bl.nums_set lo hlt] at n1
          have HN1 := Nu.hid n1
          have HBN := Nu.hid (hb.setCell (b := g) (i := j) rfl (.int .i64 (lo : Int)))
          have HJJ := Nu.hid hjf
          clear hF1 hF2 hin hb n1 hjf hm
          go_wp2
          go_roundw
          case rel =>
            refine ⟨j + 1, _, by omega, by go_num, fun i hi => ?_, fun i hi => ?_, HN1.out, HBN.out⟩
            · by_cases e : i = j
              · subst e; rw [Co.upd_same, HJJ.out]
              · rw [Co.upd_other _ e]; exact HF1.out i (by omega)
            · rw [Co.upd_other _ (by omega)]; exact HF2.out i (by omega)
          case measure => simp [intOf]; omega
        · have hd : ((m j : Int) == (hg : Int)) = false := by simp; omega
          rw [if_neg hm] at hjf
          have HJJ := Nu.hid hjf
          clear hF1 hF2 hin hb hjf hm
          go_wp2
          go_roundw
          case rel =>
            refine ⟨j + 1, F, by omega, by go_num, fun i hi => ?_, fun i hi => HF2.out i (by omega), HI.out, HB.out⟩
            by_cases e : i = j
            · subst e; rw [HF2.out i (Nat.le_refl _), HJJ.out]
            · exact HF1.out i (by omega)
          case measure => simp [intOf]; omega
      · have hd : ¬ ((j : Int) < (n : Int)) := by omega
        obtain rfl : j = n := by omega
        clear hF1 hF2 hin hb
        go_wp2
        go_ret
        exact ⟨rfl, by rw [← Bl.nums_congr HF1.out]; exact HI.out, HB.out⟩
end Go.Proofs.Ytalfpbalekbinaa
