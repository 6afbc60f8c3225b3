import Derived.Test.YtjlfdkeklilafabMg01
import Derived.Test.YtjlfdkeklilafabMg02
/-
  Half-edges: where they begin, where they lead, whether they leave a vertex: the document.
-/
namespace Go.Proofs.Ytjlfdkeklilafab
open Go.RowKit Go.Sort

set_option maxRecDepth 100000 in
set_option maxHeartbeats 4000000 in
theorem r11from_any (n : Nat) (ao : Option Addr) (ca : Nat) (es : List (Int × Int)) (j : Nat) (w : World) (he : EdgesAt w ao es) (hv : Si.Val n es) (hj : j < 2 * es.length) :
    Calls Try.prog 40 #[.agg #[.int .i64 (n : Int), .slice ao es.length ca], .int .i64 (j : Int)] w fun e w' => e = .returned (.int .i64 (Cs.fr es j : Int)) ∧ Below w.heap.size w w' := by
  have hb0 : Below w.heap.size w (w.alloc (.cells #[.int .i64 (n : Int), .slice ao es.length ca] 24)) := (Below.refl _ _).alloc (Nat.le_refl _) _
  have hfew := hv.few
  obtain ⟨e, hee, hok, hpar⟩ := half_edge hv hj
  obtain ⟨b, o, rfl, c0, c1⟩ := (he.later hb0) (j / 2) e hee
  obtain ⟨jh, hjh⟩ : ∃ jh, jh = j / 2 := ⟨_, rfl⟩
  rw [← hjh] at c0 c1 hee
  have hj0 : (0 : Int) ≤ (j : Int) := by omega
  have htd : (j : Int).tdiv 2 = (jh : Int) := by rw [Int.tdiv_eq_ediv_of_nonneg hj0]; omega
  have htd2 : (j : Int) / 2 = (jh : Int) := by omega
  have hjd : j / 2 = jh := hjh.symm
  have hj2 : (0 : Int) ≤ (jh : Int) := by omega
  have hj3 : (jh : Int) < (es.length : Int) := by omega
  have HB0 := Nu.hid hb0
  rcases hpar with ⟨hm, hf, ht⟩ | ⟨hm, hf, ht⟩
  · have hm1 : (j : Int).tmod 2 = 0 := by rw [Int.tmod_eq_emod_of_nonneg hj0]; omega
    have hm2 : (j : Int) % 2 = 0 := by omega
    rw [hf]
    clear he hv hok hee hb0 hf ht hjh hm
    go_enter Try.func40, Try.ntmps40
    go_wp2
    go_ret
    exact ⟨rfl, HB0.out⟩
  · have hm1 : (j : Int).tmod 2 = 1 := by rw [Int.tmod_eq_emod_of_nonneg hj0]; omega
    have hm2 : (j : Int) % 2 = 1 := by omega
    rw [hf]
    clear he hv hok hee hb0 hf ht hjh hm
    go_enter Try.func40, Try.ntmps40
    go_wp2
    go_ret
    exact ⟨rfl, HB0.out⟩

set_option maxRecDepth 100000 in
set_option maxHeartbeats 4000000 in
theorem r11leaves_any (n : Nat) (ao : Option Addr) (ca : Nat) (es : List (Int × Int)) (h : Int) (v : Nat) (w : World) (he : EdgesAt w ao es) (hv : Si.Val n es) :
    Calls Try.prog 41 #[.agg #[.int .i64 (n : Int), .slice ao es.length ca], .int .i64 h, .int .i64 (v : Int)] w fun e w' => e = .returned (.bool (Ro.lv es h v)) ∧ Below w.heap.size w w' := by
  have hb0 : Below w.heap.size w (w.alloc (.cells #[.int .i64 (n : Int), .slice ao es.length ca] 24)) := (Below.refl _ _).alloc (Nat.le_refl _) _
  have hfew := hv.few
  have hin := fun j hj => r11from_any n ao ca es j _ (he.later hb0) hv hj
  have HIN := Nu.hid hin
  have HB0 := Nu.hid hb0
  clear he hv hb0 hin
  have hmul : IntKind.i64.wrap (2 * (es.length : Int)) = 2 * (es.length : Int) := by rw [IntKind.wrap_i64]; omega
  by_cases h0 : 0 ≤ h
  · by_cases h1 : h < 2 * (es.length : Int)
    · obtain ⟨j, rfl⟩ : ∃ j : Nat, h = (j : Int) := ⟨h.toNat, by omega⟩
      have hj : j < 2 * es.length := by omega
      have hlv : Ro.lv es (j : Int) v = ((Cs.fr es j : Int) == (v : Int)) := by
        unfold Ro.lv
        rw [Cs.frI_in hj, decide_eq_true h0, decide_eq_true h1]
        rfl
      rw [hlv]
      have HJ := Nu.hid (HIN.out j hj)
      clear hlv hmul
      go_enter Try.func41, Try.ntmps41
      go_wp2_with (go_at_call 40; refine HJ.out.mono ?_; rintro e w1 ⟨rfl, hb1⟩)
      go_ret
      exact ⟨rfl, HB0.out.trans (hb1.mono HB0.out.size)⟩
    · have hlv : Ro.lv es h v = false := by simp [Ro.lv, h1]
      rw [hlv]
      clear hlv
      go_enter Try.func41, Try.ntmps41
      go_wp2
      go_ret
      exact ⟨rfl, HB0.out⟩
  · have hlv : Ro.lv es h v = false := by simp [Ro.lv, h0]
    rw [hlv]
    clear hlv
    go_enter Try.func41, Try.ntmps41
    go_wp2
    go_ret
    exact ⟨rfl, HB0.out⟩

end Go.Proofs.Ytjlfdkeklilafab

/-
  Where a half-edge leads: the document.
-/
namespace Go.Proofs.Ytjlfdkeklilafab
open Go.RowKit Go.Sort

set_option maxRecDepth 100000 in
set_option maxHeartbeats 4000000 in
theorem r11to_any (n : Nat) (ao : Option Addr) (ca : Nat) (es : List (Int × Int)) (j : Nat) (w : World) (he : EdgesAt w ao es) (hv : Si.Val n es) (hj : j < 2 * es.length) :
    Calls Try.prog 29 #[.agg #[.int .i64 (n : Int), .slice ao es.length ca], .int .i64 (j : Int)] w fun e w' => e = .returned (.int .i64 (Cs.to es j : Int)) ∧ Below w.heap.size w w' := by
  have hb0 : Below w.heap.size w (w.alloc (.cells #[.int .i64 (n : Int), .slice ao es.length ca] 24)) := (Below.refl _ _).alloc (Nat.le_refl _) _
  have hfew := hv.few
  have hxt := Cs.xor_twin j (by omega)
  have hfr := r11from_any n ao ca es (Cs.twin j) _ (he.later hb0) hv (Cs.twin_lt hj)
  rw [Cs.fr_twin] at hfr
  have HFR := Nu.hid hfr
  have HB0 := Nu.hid hb0
  clear he hv hb0 hfr
  go_enter Try.func29, Try.ntmps29
  go_wp2_with (go_at_call 40; refine HFR.out.mono ?_; rintro e w1 ⟨rfl, hb1⟩)
  go_ret
  exact ⟨rfl, HB0.out.trans (hb1.mono HB0.out.size)⟩

end Go.Proofs.Ytjlfdkeklilafab

/-
  The document's own stands and degree.
-/
namespace Go.Proofs.Ytjlfdkeklilafab
open Go.RowKit Go.Sort

set_option maxRecDepth 100000 in
set_option maxHeartbeats 4000000 in
theorem stands_any (ao : Option Addr) (ca n k : Nat) (l : List Int) (x : Int) (w : World) (hn : l.length = n) (ha : IntsAt w ao l) (hk : k ≤ n) (hl : n ≤ 4611686018427387904) :
    Calls Try.prog 42 #[.slice ao n ca, .int .i64 (k : Int), .int .i64 x] w fun e w' => e = .returned (.bool (decide (x ∈ l.take k))) ∧ w' = w := by
  have HA := Nu.hid ha
  have HN := Nu.hid hn
  clear ha hn
  go_enter Try.func42, Try.ntmps42
  go_wp2
  go_loopw [7] (fun c wr => ∃ i : Nat, i ≤ k ∧ c = .int .i64 i ∧ x ∉ l.take i ∧ wr = w) (fun c _ => k - (intOf c).toNat)
  case atStart => exact ⟨0, Nat.zero_le _, rfl, by simp, rfl⟩
  case round =>
    obtain ⟨i, hi, rfl, hno, hw⟩ := hrel
    obtain rfl := hw.symm
    have HNO := Nu.hid hno
    clear hno hw
    by_cases hlt : i < k
    · have hlti : (i : Int) < (k : Int) := by omega
      have hi0 : (0 : Int) ≤ (i : Int) := by omega
      have hin : (i : Int) < (n : Int) := by omega
      obtain ⟨y, hy⟩ : ∃ y, l[i]? = some y := ⟨_, List.getElem?_eq_getElem (by have := HN.out; omega)⟩
      obtain ⟨b, o, rfl, c0⟩ := HA.out i y hy
      have HY := Nu.hid hy
      clear hy
      by_cases e1 : y = x
      · have t1 : (y == x) = true := by simp [e1]
        have HV := Nu.hid (show decide (x ∈ l.take k) = true by
          rw [decide_eq_true_eq, ← e1]
          exact List.mem_of_getElem? (i := i) (by rw [List.getElem?_take, if_pos hlt]; exact HY.out))
        clear e1
        go_wp2
        go_ret
        exact ⟨by rw [HV.out]; rfl, rfl⟩
      · have t1 : (y == x) = false := by simp [e1]
        have HNO2 := Nu.hid (show x ∉ l.take (i + 1) by
          rw [Ro.take_snoc' HY.out, List.mem_append, List.mem_singleton]
          rintro (h | h)
          · exact HNO.out h
          · exact e1 h.symm)
        clear e1
        go_wp2
        go_roundw
        case rel => exact ⟨i + 1, by omega, by go_num, HNO2.out, by first | rfl | trivial⟩
        case measure => simp [intOf]; omega
    · have hlti : ¬ (i : Int) < (k : Int) := by omega
      obtain rfl : i = k := by omega
      have HV := Nu.hid (show decide (x ∈ l.take i) = false by rw [decide_eq_false_iff_not]; exact HNO.out)
      go_wp2
      go_ret
      exact ⟨by rw [HV.out]; rfl, rfl⟩

set_option maxRecDepth 100000 in
set_option maxHeartbeats 4000000 in
theorem r11degree_any (n : Nat) (ao : Option Addr) (ca : Nat) (es : List (Int × Int)) (v : Nat) (w : World) (he : EdgesAt w ao es) (hv : Si.Val n es) :
    Calls Try.prog 43 #[.agg #[.int .i64 (n : Int), .slice ao es.length ca], .int .i64 (v : Int)] w fun e w' => e = .returned (.int .i64 (Ro.deg es v : Int)) ∧ Below w.heap.size w w' := by
  have hb0 : Below w.heap.size w (w.alloc (.cells #[.int .i64 (n : Int), .slice ao es.length ca] 24)) := (Below.refl _ _).alloc (Nat.le_refl _) _
  have hfew := hv.few
  have HE := Nu.hid he
  have HVAL := Nu.hid hv
  have HB0 := Nu.hid hb0
  have HG0 : Hid ((w.alloc (.cells #[.int .i64 (n : Int), .slice ao es.length ca] 24)).heap[w.heap.size]? = some (.cells #[.int .i64 (n : Int), .slice ao es.length ca] 24 (0, 0))) := heap_alloc_new w _
  have hmul : IntKind.i64.wrap (2 * (es.length : Int)) = 2 * (es.length : Int) := by rw [IntKind.wrap_i64]; omega
  clear he hv hb0
  go_enter Try.func43, Try.ntmps43
  go_wp2
  go_loopw [5, 6] (fun c5 c6 wr => ∃ j : Nat, j ≤ 2 * es.length ∧ c6 = .int .i64 (j : Int) ∧ c5 = .int .i64 ((Cs.out es v j).length : Int) ∧ wr.heap[w.heap.size]? = some (.cells #[.int .i64 (n : Int), .slice ao es.length ca] 24 (0, 0)) ∧ Below w.heap.size w wr) (fun _ c6 _ => 2 * es.length - (intOf c6).toNat)
  case atStart => exact ⟨0, Nat.zero_le _, rfl, rfl, HG0.out, HB0.out⟩
  case round =>
    obtain ⟨j, hj, rfl, rfl, hg, hb⟩ := hrel
    obtain ⟨g0, g1, -⟩ := pair_cells hg
    have HG := Nu.hid hg
    have HB := Nu.hid hb
    have hol := Cs.out_len_le (es := es) (v := v) j
    have hos := Cs.out_len_succ (es := es) (v := v) j
    have HOS := Nu.hid hos
    clear hg hb hos
    by_cases hlt : j < 2 * es.length
    · have hlti : (j : Int) < 2 * (es.length : Int) := by omega
      have HF := Nu.hid (r11from_any n ao ca es j wr (HE.out.later HB.out) HVAL.out hlt)
      by_cases hf : Cs.fr es j = v
      · have t1 : ((Cs.fr es j : Int) == (v : Int)) = true := by simp; omega
        have HO : Hid ((Cs.out es v (j + 1)).length = (Cs.out es v j).length + 1) := by have := HOS.out; rw [if_pos hf] at this; exact this
        clear hf
        go_wp2_with (go_at_call 40; refine HF.out.mono ?_; rintro e w2 ⟨rfl, hb2⟩; refine Hid.out ?_)
        refine Nu.hid ?_
        have HG2 := Nu.hid ((hb2.block _ (lt_of_block HG.out)).trans HG.out)
        have HB2 := Nu.hid (HB.out.trans (hb2.mono HB.out.size))
        clear hb2 g0 g1
        go_wp2
        go_roundw
        case rel => exact ⟨j + 1, by omega, by go_num, by rw [HO.out]; go_num, HG2.out, HB2.out⟩
        case measure => simp [intOf]; omega
      · have t1 : ((Cs.fr es j : Int) == (v : Int)) = false := by simp; omega
        have HO : Hid ((Cs.out es v (j + 1)).length = (Cs.out es v j).length) := by have := HOS.out; rw [if_neg hf] at this; exact this
        clear hf
        go_wp2_with (go_at_call 40; refine HF.out.mono ?_; rintro e w2 ⟨rfl, hb2⟩; refine Hid.out ?_)
        refine Nu.hid ?_
        have HG2 := Nu.hid ((hb2.block _ (lt_of_block HG.out)).trans HG.out)
        have HB2 := Nu.hid (HB.out.trans (hb2.mono HB.out.size))
        clear hb2 g0 g1
        go_wp2
        go_roundw
        case rel => exact ⟨j + 1, by omega, by go_num, by rw [HO.out], HG2.out, HB2.out⟩
        case measure => simp [intOf]; omega
    · have hlti : ¬ (j : Int) < 2 * (es.length : Int) := by omega
      obtain rfl : j = 2 * es.length := by omega
      go_wp2
      go_ret
      exact ⟨rfl, HB.out⟩

end Go.Proofs.Ytjlfdkeklilafab

/-
  Edges gone through one after another: the first, the last.
-/
namespace Go.Proofs.Ytjlfdkeklilafab
open Go.RowKit Go.Sort

theorem Si.UpTo.first {n : Int} {es : List (Int × Int)} {l p : Int × Int} (h : Si.UpTo n es 0 l) (ho : Si.ok n p) : Si.lt l p := by
  rcases h.2.2 with ⟨_, rfl⟩ | ⟨k', hk, _⟩
  · unfold Si.ok at ho
    unfold Si.lt
    dsimp only
    omega
  · omega

theorem Si.UpTo.last {n : Int} {es : List (Int × Int)} {k : Nat} {l : Int × Int} (h : Si.UpTo n es (k + 1) l) : es[k]? = some l := by
  rcases h.2.2 with ⟨h0, _⟩ | ⟨k', hk, hl⟩
  · omega
  · obtain rfl : k = k' := by omega
    exact hl

end Go.Proofs.Ytjlfdkeklilafab

/-
  The order of edges as the document asks it.
-/
namespace Go.Proofs.Ytjlfdkeklilafab
open Go.RowKit Go.Sort

set_option maxHeartbeats 1000000 in
theorem less_any (a b : Int × Int) (w : World) : Calls Try.prog 20 #[edgeVal a, edgeVal b] w fun e w' => e = .returned (.bool (decide (Si.lt a b))) ∧ ∃ q os', w' = grow (w.drewN q) os' := by
  unfold edgeVal
  by_cases h1 : a.1 < b.1
  · have hd : decide (Si.lt a b) = true := by simp [Si.lt, h1]
    rw [hd]
    go_enter Try.func20, Try.ntmps20
    go_wp2
    go_ret
    exact ⟨rfl, 0, _, by rw [alloc_eq_grow, alloc_eq_grow, grow_grow]; rfl⟩
  · by_cases h2 : a.1 = b.1
    · by_cases h3 : a.2 < b.2
      · have hd : decide (Si.lt a b) = true := by simp [Si.lt, h2, h3]
        rw [hd]
        go_enter Try.func20, Try.ntmps20
        go_wp2
        go_ret
        exact ⟨rfl, 0, _, by rw [alloc_eq_grow, alloc_eq_grow, grow_grow]; rfl⟩
      · have hd : decide (Si.lt a b) = false := by simp [Si.lt, h1, h3]
        rw [hd]
        go_enter Try.func20, Try.ntmps20
        go_wp2
        go_ret
        exact ⟨rfl, 0, _, by rw [alloc_eq_grow, alloc_eq_grow, grow_grow]; rfl⟩
    · have hd : decide (Si.lt a b) = false := by simp [Si.lt, h1, h2]
      rw [hd]
      go_enter Try.func20, Try.ntmps20
      go_wp2
      go_ret
      exact ⟨rfl, 0, _, by rw [alloc_eq_grow, alloc_eq_grow, grow_grow]; rfl⟩

theorem grown_of_grow {w w' : World} (h : ∃ (q : Nat) (os' : Array Obj), w' = grow (w.drewN q) os') : Below w.heap.size w w' := by
  obtain ⟨q, os', rfl⟩ := h
  exact grow_below w q os'

end Go.Proofs.Ytjlfdkeklilafab

/-
  Whether a graph is valid, as the document asks it.
-/
namespace Go.Proofs.Ytjlfdkeklilafab
open Go.RowKit Go.Sort

set_option maxRecDepth 100000 in
set_option maxHeartbeats 8000000 in
theorem rvalid_any (n : Int) (ao : Option Addr) (cap : Nat) (es : List (Int × Int)) (w : World) (he : EdgesAt w ao es) (hl : es.length ≤ 4611686018427387904) :
    Calls Try.prog 6 #[graphVal n ao es.length cap] w fun e w' => e = .returned (.bool (Si.valid n es)) ∧ Below w.heap.size w w' := by
  have HE := Nu.hid he
  clear he
  unfold graphVal
  by_cases h1 : n < 0
  · have hv := Si.valid_no (n := n) (es := es) (fun h => by have := h.lo; omega)
    rw [hv]
    go_enter Try.func6, Try.ntmps6
    go_wp2
    go_ret
    exact ⟨rfl, (Below.refl _ _).alloc (Nat.le_refl _) _⟩
  by_cases h2 : 1048576 < n
  · have hv := Si.valid_no (n := n) (es := es) (fun h => by have := h.hi; omega)
    rw [hv]
    go_enter Try.func6, Try.ntmps6
    go_wp2
    go_ret
    exact ⟨rfl, (Below.refl _ _).alloc (Nat.le_refl _) _⟩
  by_cases h3 : 4194304 < (es.length : Int)
  · have hv := Si.valid_no (n := n) (es := es) (fun h => by have := h.few; omega)
    rw [hv]
    go_enter Try.func6, Try.ntmps6
    go_wp2
    go_ret
    exact ⟨rfl, (Below.refl _ _).alloc (Nat.le_refl _) _⟩
  go_enter Try.func6, Try.ntmps6
  go_wp2
  go_loopw [3] (fun c wr => ∃ (k : Nat) (l : Int × Int), k ≤ es.length ∧ c = .int .i64 k ∧ Si.UpTo n es k l ∧ wr.heap[w.heap.size]? = some (.cells #[.int .i64 n, .slice ao es.length cap] 24 (0, 0)) ∧ Below w.heap.size w wr) (fun c _ => es.length - (intOf c).toNat)
  case atStart => exact ⟨0, (0, 0), Nat.zero_le _, rfl, Si.UpTo.start n es, heap_alloc_new w _, (Below.refl _ _).alloc (Nat.le_refl _) _⟩
  case round =>
    obtain ⟨k, l, hk, rfl, hup, hgb, hb⟩ := hrel
    obtain ⟨g0, g1, -⟩ := pair_cells hgb
    have hsz0 := lt_of_block hgb
    have HGB := Nu.hid hgb
    have HUP := Nu.hid hup
    have HB := Nu.hid hb
    clear hgb hup
    by_cases hlt : k < es.length
    · have hlti : (k : Int) < (es.length : Int) := by omega
      have hk0 : (0 : Int) ≤ (k : Int) := by omega
      obtain ⟨p, hp⟩ : ∃ p, es[k]? = some p := ⟨_, List.getElem?_eq_getElem hlt⟩
      obtain ⟨b, o, rfl, c0, c1⟩ := (HE.out.later hb) k p hp
      have hbl : b < wr.heap.size := block_lt_of_cell c0
      have HP := Nu.hid hp
      clear hp
      by_cases q1 : p.1 < 0
      · have hv := Si.valid_no (n := n) (es := es) (fun h => by have := (HUP.out.must h HP.out).1.1; omega)
        clear hb
        go_wp2
        go_ret
        exact ⟨by first | rfl | exact congrArg (fun b => Ending.returned (.bool b)) hv.symm, HB.out.alloc (by omega) _⟩
      by_cases q2 : p.1 < p.2
      rotate_left
      · have hv := Si.valid_no (n := n) (es := es) (fun h => by have := (HUP.out.must h HP.out).1.2.1; omega)
        clear hb
        go_wp2
        go_ret
        exact ⟨by first | rfl | exact congrArg (fun b => Ending.returned (.bool b)) hv.symm, HB.out.alloc (by omega) _⟩
      by_cases q3 : p.2 < n
      rotate_left
      · have hv := Si.valid_no (n := n) (es := es) (fun h => by have := (HUP.out.must h HP.out).1.2.2; omega)
        clear hb
        go_wp2
        go_ret
        exact ⟨by first | rfl | exact congrArg (fun b => Ending.returned (.bool b)) hv.symm, HB.out.alloc (by omega) _⟩
      have hok : Si.ok n p := ⟨by omega, q2, q3⟩
      have hbA : Below wr.heap.size wr (wr.alloc (.cells #[.int .i64 p.1, .int .i64 p.2] 47)) := (Below.refl _ _).alloc (Nat.le_refl _) _
      by_cases hkz : k = 0
      · have hkn : ¬ ((0 : Int) < (k : Int)) := by omega
        have hlt0 : Si.lt l p := by
          have := HUP.out
          rw [hkz] at this
          exact this.first hok
        have HST := Nu.hid (HUP.out.step HP.out hok hlt0)
        have HBA := Nu.hid (HB.out.trans (hbA.mono HB.out.size))
        have HG2 := Nu.hid ((hbA.block _ hsz0).trans HGB.out)
        clear hok hbA hb hkz hlt0
        go_wp2
        go_roundw
        case rel => exact ⟨k + 1, p, by omega, by go_num, HST.out, HG2.out, HBA.out⟩
        case measure => simp [intOf]; omega
      · obtain ⟨k', hk'⟩ : ∃ k', k = k' + 1 := ⟨k - 1, by omega⟩
        have hl' : es[k']? = some l := by
          have := HUP.out
          rw [hk'] at this
          exact this.last
        obtain ⟨b2, o2, e2, d0, d1⟩ := (HE.out.later hb) k' l hl'
        cases e2
        have hk1 : (k : Int) - 1 = (k' : Int) := by omega
        have hkw : IntKind.i64.wrap (k' : Int) = (k' : Int) := by simp [IntKind.wrap, IntKind.bits, IntKind.signed]; omega
        have hk'0 : (0 : Int) ≤ (k' : Int) := by omega
        have hk'l : (k' : Int) < (es.length : Int) := by omega
        have hkp : (0 : Int) < (k : Int) := by omega
        have hca := fun W => less_any l p W
        unfold edgeVal at hca
        have HK := Nu.hid hk'
        clear hk' hl' hkz hb
        have HBA := Nu.hid hbA
        have y0 := (hbA.cell (p := ⟨b, o + k' * 2, none⟩) hbl).trans d0
        have y1 := (hbA.cell (p := ⟨b, o + k' * 2 + 1, none⟩) hbl).trans d1
        have z0 := (hbA.cell (p := ⟨w.heap.size, 0, none⟩) hsz0).trans g0
        have z1 := (hbA.cell (p := ⟨w.heap.size, 1, none⟩) hsz0).trans g1
        obtain ⟨p0, p1, -⟩ := pair_cells (heap_alloc_new wr (.cells #[.int .i64 p.1, .int .i64 p.2] 47))
        have hsA : (wr.alloc (.cells #[.int .i64 p.1, .int .i64 p.2] 47)).heap.size = wr.heap.size + 1 := by simp
        by_cases q4 : Si.lt l p
        · have hd : decide (Si.lt l p) = true := by simp [q4]
          rw [hd] at hca
          have HCA := Nu.hid hca
          have HST := Nu.hid (HUP.out.step HP.out hok q4)
          clear hca hd hok hbA d0 d1
          go_wp2_with fail
          generalize hX : wr.alloc (.cells #[.int .i64 p.1, .int .i64 p.2] 47) = X at y0 y1 z0 z1 p0 p1 hsA HBA ⊢
          clear hX c0 c1 g0 g1
          go_region_held3 (fun w' => w'.cell? ⟨b, o + k' * 2, none⟩ = some (.int .i64 l.1) ∧ w'.cell? ⟨b, o + k' * 2 + 1, none⟩ = some (.int .i64 l.2) ∧ w'.cell? ⟨w.heap.size, 1, none⟩ = some (.slice (some ⟨b, o, none⟩) es.length cap) ∧ w'.cell? ⟨wr.heap.size, 0, none⟩ = some (.int .i64 p.1) ∧ w'.cell? ⟨wr.heap.size, 1, none⟩ = some (.int .i64 p.2))
            (first
              | go_keep
              | (go_split_ands
                 refine ⟨?_, ?_, ?_, ?_, ?_⟩ <;> (refine (hb2.cell (p := ⟨_, _, none⟩) ?_).trans ?_ <;> first | assumption | (simp; omega))))
            ((go_at_call 20; refine (HCA.out _).mono ?_; rintro e w2 ⟨rfl, hgr⟩; have hb2 : Below X.heap.size X w2 := (Below.refl X.heap.size X).drew.trans (grown_of_grow hgr)))
          have hb3 : Below wr.heap.size wr w2 := HBA.out.trans (hb2.mono (by omega))
          have HB3 := Nu.hid (HB.out.trans (hb3.mono HB.out.size))
          have HG3 := Nu.hid ((hb3.block _ hsz0).trans HGB.out)
          clear hb2 hb3 hgr
          go_wp2
          go_roundw
          case rel => exact ⟨k + 1, p, by omega, by go_num, HST.out, HG3.out, HB3.out⟩
          case measure => simp [intOf]; omega
        · have hv := Si.valid_no (n := n) (es := es) (fun h => q4 (HUP.out.must h HP.out).2)
          have HV := Nu.hid hv
          have hd : decide (Si.lt l p) = false := by simp [q4]
          rw [hd] at hca
          have HCA := Nu.hid hca
          clear hca hd hok hbA d0 d1 hv
          go_wp2_with fail
          generalize hX : wr.alloc (.cells #[.int .i64 p.1, .int .i64 p.2] 47) = X at y0 y1 z0 z1 p0 p1 hsA HBA ⊢
          clear hX c0 c1 g0 g1
          go_region_held3 (fun w' => w'.cell? ⟨b, o + k' * 2, none⟩ = some (.int .i64 l.1) ∧ w'.cell? ⟨b, o + k' * 2 + 1, none⟩ = some (.int .i64 l.2) ∧ w'.cell? ⟨w.heap.size, 1, none⟩ = some (.slice (some ⟨b, o, none⟩) es.length cap) ∧ w'.cell? ⟨wr.heap.size, 0, none⟩ = some (.int .i64 p.1) ∧ w'.cell? ⟨wr.heap.size, 1, none⟩ = some (.int .i64 p.2))
            (first
              | go_keep
              | (go_split_ands
                 refine ⟨?_, ?_, ?_, ?_, ?_⟩ <;> (refine (hb2.cell (p := ⟨_, _, none⟩) ?_).trans ?_ <;> first | assumption | (simp; omega))))
            ((go_at_call 20; refine (HCA.out _).mono ?_; rintro e w2 ⟨rfl, hgr⟩; have hb2 : Below X.heap.size X w2 := (Below.refl X.heap.size X).drew.trans (grown_of_grow hgr)))
          have hb3 : Below wr.heap.size wr w2 := HBA.out.trans (hb2.mono (by omega))
          have HB3 := Nu.hid (HB.out.trans (hb3.mono HB.out.size))
          clear hb2 hb3 hgr
          go_wp2
          go_ret
          exact ⟨by rw [HV.out]; rfl, HB3.out⟩
    · have hd : ¬ ((k : Int) < (es.length : Int)) := by omega
      obtain rfl : k = es.length := by omega
      have hv := Si.valid_iff.2 (HUP.out.done (by omega) (by omega) (by omega))
      have HV := Nu.hid hv
      clear hb hv
      go_wp2
      go_ret
      exact ⟨by rw [HV.out]; rfl, HB.out⟩

end Go.Proofs.Ytjlfdkeklilafab
