/-
  The document's own Equal and Copy of graphs.
-/
import Derived.Test.YtfkmldopfhdbkaaMg18
import Derived.Test.YtfkmldopfhdbkaaMg04
import Derived.Test.YtfkmldopfhdbkaaMg05
import Derived.Deep.QuietTactic
import Derived.BigQuiet
namespace Go.Proofs.Ytfkmldopfhdbkaa
open Go.RowKit Go.Sort

namespace Si
def equal (n m : Int) (es fs : List (Int × Int)) : Bool := decide (n = m ∧ es = fs)
theorem equal_yes {n m : Int} {es fs : List (Int × Int)} (h : n = m) (h' : es = fs) : equal n m es fs = true := by simp [equal, h, h']
theorem equal_no {n m : Int} {es fs : List (Int × Int)} (h : n ≠ m ∨ es ≠ fs) : equal n m es fs = false := by
  unfold equal
  rcases h with h | h <;> simp [h]
end Si

set_option maxRecDepth 100000 in
set_option maxHeartbeats 8000000 in
theorem equal_any (n m : Int) (ao bo : Option Addr) (ca cb : Nat) (es fs : List (Int × Int)) (w : World) (he : EdgesAt w ao es) (hf : EdgesAt w bo fs) (hl : es.length ≤ 4611686018427387904) :
    Calls Try.prog 29 #[graphVal n ao es.length ca, graphVal m bo fs.length cb] w fun e w' => e = .returned (.bool (Si.equal n m es fs)) ∧ Below w.heap.size w w' := by
  have HE := Nu.hid he
  have HF := Nu.hid hf
  clear he hf
  unfold graphVal
  have hbw0 : Below w.heap.size w ((w.alloc (.cells #[.int .i64 n, .slice ao es.length ca] 24)).alloc (.cells #[.int .i64 m, .slice bo fs.length cb] 24)) := ((Below.refl _ _).alloc (Nat.le_refl _) _).alloc (by simp) _
  by_cases hnm : n = m
  · by_cases hll : es.length = fs.length
    · have j0 : (n != m) = false := by simp [hnm]
      have j1 : ((es.length : Int) != (fs.length : Int)) = false := by simp [hll]
      have HLL := Nu.hid hll
      have HNM := Nu.hid hnm
      have HBW0 := Nu.hid hbw0
      clear hll hnm hbw0
      go_enter Try.func29, Try.ntmps29
      go_wp2
      go_loopw [5] (fun c wr => ∃ k : Nat, k ≤ es.length ∧ c = .int .i64 k ∧ (∀ j, j < k → es[j]? = fs[j]?) ∧ wr.heap[w.heap.size]? = some (.cells #[.int .i64 n, .slice ao es.length ca] 24 (0, 0)) ∧ wr.heap[w.heap.size + 1]? = some (.cells #[.int .i64 m, .slice bo fs.length cb] 24 (0, 0)) ∧ Below w.heap.size w wr) (fun c _ => es.length - (intOf c).toNat)
      case atStart =>
        refine ⟨0, Nat.zero_le _, rfl, fun j h => by omega, ?_, ?_, HBW0.out⟩
        · rw [Below.heap_alloc _ _ _ (by simp)]
          exact heap_alloc_new w _
        · have := heap_alloc_new (w.alloc (.cells #[.int .i64 n, .slice ao es.length ca] 24)) (.cells #[.int .i64 m, .slice bo fs.length cb] 24)
          simpa using this
      case round =>
        obtain ⟨k, hk, rfl, hsame, hg1, hg2, hb⟩ := hrel
        obtain ⟨-, a1, -⟩ := pair_cells hg1
        obtain ⟨-, b1, -⟩ := pair_cells hg2
        have hs2 := lt_of_block hg2
        have HG1 := Nu.hid hg1
        have HG2 := Nu.hid hg2
        have HSAME := Nu.hid hsame
        have HB := Nu.hid hb
        clear hg1 hg2 hsame
        by_cases hlt : k < es.length
        · have hlti : (k : Int) < (es.length : Int) := by omega
          have hk0 : (0 : Int) ≤ (k : Int) := by omega
          have hlf : (k : Int) < (fs.length : Int) := by have := HLL.out; omega
          obtain ⟨p, hp⟩ : ∃ p, es[k]? = some p := ⟨_, List.getElem?_eq_getElem hlt⟩
          obtain ⟨q, hq⟩ : ∃ q, fs[k]? = some q := ⟨_, List.getElem?_eq_getElem (by omega)⟩
          obtain ⟨b, o, rfl, c0, c1⟩ := (HE.out.later hb) k p hp
          obtain ⟨b', o', rfl, d0, d1⟩ := (HF.out.later hb) k q hq
          have hbl : b < wr.heap.size := block_lt_of_cell c0
          have hbl' : b' < wr.heap.size := block_lt_of_cell d0
          have HP := Nu.hid hp
          have HQ := Nu.hid hq
          clear hp hq hb
          by_cases e1 : p.1 = q.1
          · have t1 : (p.1 != q.1) = false := by simp [e1]
            by_cases e2 : p.2 = q.2
            · have t2 : (p.2 != q.2) = false := by simp [e2]
              have HPQ : Hid (p = q) := Prod.ext e1 e2
              clear e1 e2
              go_wp2_with fail
              go_quiet (fail)
              go_wp2
              go_roundw
              case rel =>
                refine ⟨k + 1, by omega, by go_num, fun j hj => ?_, HG1.out, HG2.out, below_drewN HB.out _⟩
                by_cases hjk : j = k
                · subst hjk; rw [HP.out, HQ.out, HPQ.out]
                · exact HSAME.out j (by omega)
              case measure => simp [intOf]; omega
            · have t2 : (p.2 != q.2) = true := by simp [e2]
              have hv : Si.equal n m es fs = false := Si.equal_no (.inr fun h => by rw [h, HQ.out] at HP; cases HP.out; exact e2 rfl)
              have HV := Nu.hid hv
              clear e1 hv
              go_wp2_with fail
              go_quiet (fail)
              go_wp2
              go_ret
              exact ⟨by rw [HV.out]; rfl, below_drewN HB.out _⟩
          · have t1 : (p.1 != q.1) = true := by simp [e1]
            have hv : Si.equal n m es fs = false := Si.equal_no (.inr fun h => by rw [h, HQ.out] at HP; cases HP.out; exact e1 rfl)
            have HV := Nu.hid hv
            clear hv
            go_wp2_with fail
            go_quiet (fail)
            go_wp2
            go_ret
            exact ⟨by rw [HV.out]; rfl, below_drewN HB.out _⟩
        · have hd : ¬ ((k : Int) < (es.length : Int)) := by omega
          have hv : Si.equal n m es fs = true := Si.equal_yes HNM.out (List.ext_getElem? fun j => by
            by_cases hj : j < k
            · exact HSAME.out j hj
            · rw [List.getElem?_eq_none (by omega), List.getElem?_eq_none (by have := HLL.out; omega)])
          have HV := Nu.hid hv
          clear hv hb
          go_wp2
          go_ret
          exact ⟨by rw [HV.out]; rfl, HB.out⟩
    · have j0 : (n != m) = false := by simp [hnm]
      have j1 : ((es.length : Int) != (fs.length : Int)) = true := by simp; omega
      have hv : Si.equal n m es fs = false := Si.equal_no (.inr fun h => hll (by rw [h]))
      rw [hv]
      clear hll hnm hv
      go_enter Try.func29, Try.ntmps29
      go_wp2
      go_ret
      exact ⟨rfl, hbw0⟩
  · have j0 : (n != m) = true := by simp [hnm]
    have hv : Si.equal n m es fs = false := Si.equal_no (.inl hnm)
    rw [hv]
    clear hnm hv
    go_enter Try.func29, Try.ntmps29
    go_wp2
    go_ret
    exact ⟨rfl, hbw0⟩

end Go.Proofs.Ytfkmldopfhdbkaa
