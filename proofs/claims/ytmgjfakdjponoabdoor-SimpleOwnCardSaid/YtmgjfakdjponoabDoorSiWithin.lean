/-
  Whether all numbers of pairs are vertices.
-/
import Derived.Test.YtmgjfakdjponoabDoorSiValid
namespace Go.Proofs.YtmgjfakdjponoabDoor
open Go.RowKit Go.Sort

def Si.inn (n : Int) (p : Int × Int) : Prop := (0 ≤ p.1 ∧ p.1 < n) ∧ 0 ≤ p.2 ∧ p.2 < n
instance (n : Int) (p : Int × Int) : Decidable (Si.inn n p) := by unfold Si.inn; infer_instance
def Si.inside (n : Int) (ps : List (Int × Int)) : Bool := ps.all fun p => decide (Si.inn n p)

theorem Si.inside_no {n : Int} {ps : List (Int × Int)} {k : Nat} {p : Int × Int} (h : ps[k]? = some p) (hp : ¬ Si.inn n p) : Si.inside n ps = false := by
  unfold Si.inside
  rw [List.all_eq_false]
  exact ⟨p, List.mem_of_getElem? h, by simpa using hp⟩

theorem Si.inside_yes {n : Int} {ps : List (Int × Int)} (h : ∀ (j : Nat) (p : Int × Int), ps[j]? = some p → Si.inn n p) : Si.inside n ps = true := by
  unfold Si.inside
  rw [List.all_eq_true]
  intro p hp
  obtain ⟨j, hj, e⟩ := List.mem_iff_getElem.1 hp
  simpa using h j p (by rw [← e]; exact List.getElem?_eq_getElem hj)

theorem Si.inside_at {n : Int} {ps : List (Int × Int)} (h : Si.inside n ps = true) {j : Nat} {p : Int × Int} (hj : ps[j]? = some p) : Si.inn n p := by
  unfold Si.inside at h
  rw [List.all_eq_true] at h
  simpa using h p (List.mem_of_getElem? hj)

set_option maxRecDepth 100000 in
set_option maxHeartbeats 4000000 in
theorem within_any (n : Int) (ao : Option Addr) (cap : Nat) (ps : List (Int × Int)) (w : World) (he : EdgesAt w ao ps) (hl : ps.length ≤ 4611686018427387904) :
    Calls Tryd.prog 23 #[.int .i64 n, .slice ao ps.length cap] w fun e w' => e = .returned (.bool (Si.inside n ps)) ∧ Below w.heap.size w w' := by
  have HE := Nu.hid he
  clear he
  go_enter Tryd.func23, Tryd.ntmps23
  go_wp2
  go_loopw [9] (fun c wr => ∃ k : Nat, k ≤ ps.length ∧ c = .int .i64 k ∧ (∀ (j : Nat) (p : Int × Int), j < k → ps[j]? = some p → Si.inn n p) ∧ Below w.heap.size w wr) (fun c _ => ps.length - (intOf c).toNat)
  case atStart => exact ⟨0, Nat.zero_le _, rfl, fun j p h => by omega, Below.refl _ _⟩
  case round =>
    obtain ⟨k, hk, rfl, hin, hb⟩ := hrel
    have hsz := hb.size
    by_cases hlt : k < ps.length
    · have hlti : (k : Int) < (ps.length : Int) := by omega
      have hk0 : (0 : Int) ≤ (k : Int) := by omega
      obtain ⟨p, hp⟩ : ∃ p, ps[k]? = some p := ⟨_, List.getElem?_eq_getElem hlt⟩
      obtain ⟨b, o, rfl, c0, c1⟩ := (HE.out.later hb) k p hp
      have hbl : b < wr.heap.size := block_lt_of_cell c0
      have HIN := Nu.hid hin
      have HP := Nu.hid hp
      have HB := Nu.hid hb
      clear hin hp hb
      rcases Int.lt_or_le p.2 p.1 with h | h
      · have h' : ¬ (p.1 < p.2) := by omega
        by_cases a1 : p.2 < 0
        · have hv := Si.inside_no HP.out (n := n) (by unfold Si.inn; omega)
          go_wp2
          go_ret
          exact ⟨by first | rfl | exact congrArg (fun b => Ending.returned (.bool b)) hv.symm, HB.out.alloc hsz _⟩
        · by_cases a2 : p.1 < n
          · go_wp2
            go_roundw
            case rel =>
              refine ⟨k + 1, by omega, by go_num, fun j q hj hq => ?_, HB.out.alloc hsz _⟩
              by_cases hjk : j = k
              · subst hjk; rw [HP.out] at hq; cases hq; unfold Si.inn; omega
              · exact HIN.out j q (by omega) hq
            case measure => simp [intOf]; omega
          · have hv := Si.inside_no HP.out (n := n) (by unfold Si.inn; omega)
            go_wp2
            go_ret
            exact ⟨by first | rfl | exact congrArg (fun b => Ending.returned (.bool b)) hv.symm, HB.out.alloc hsz _⟩
      · rcases Int.lt_or_le p.1 p.2 with h' | h'
        · have h'' : ¬ (p.2 < p.1) := by omega
          by_cases a1 : p.1 < 0
          · have hv := Si.inside_no HP.out (n := n) (by unfold Si.inn; omega)
            go_wp2
            go_ret
            exact ⟨by first | rfl | exact congrArg (fun b => Ending.returned (.bool b)) hv.symm, HB.out.alloc hsz _⟩
          · by_cases a2 : p.2 < n
            · go_wp2
              go_roundw
              case rel =>
                refine ⟨k + 1, by omega, by go_num, fun j q hj hq => ?_, HB.out.alloc hsz _⟩
                by_cases hjk : j = k
                · subst hjk; rw [HP.out] at hq; cases hq; unfold Si.inn; omega
                · exact HIN.out j q (by omega) hq
              case measure => simp [intOf]; omega
            · have hv := Si.inside_no HP.out (n := n) (by unfold Si.inn; omega)
              go_wp2
              go_ret
              exact ⟨by first | rfl | exact congrArg (fun b => Ending.returned (.bool b)) hv.symm, HB.out.alloc hsz _⟩
        · have e : p.2 = p.1 := by omega
          rw [e] at c1
          by_cases a1 : p.1 < 0
          · have hv := Si.inside_no HP.out (n := n) (by unfold Si.inn; omega)
            go_wp2
            go_ret
            exact ⟨by first | rfl | exact congrArg (fun b => Ending.returned (.bool b)) hv.symm, HB.out.alloc hsz _⟩
          · by_cases a2 : p.1 < n
            · go_wp2
              go_roundw
              case rel =>
                refine ⟨k + 1, by omega, by go_num, fun j q hj hq => ?_, HB.out.alloc hsz _⟩
                by_cases hjk : j = k
                · subst hjk; rw [HP.out] at hq; cases hq; unfold Si.inn; omega
                · exact HIN.out j q (by omega) hq
              case measure => simp [intOf]; omega
            · have hv := Si.inside_no HP.out (n := n) (by unfold Si.inn; omega)
              go_wp2
              go_ret
              exact ⟨by first | rfl | exact congrArg (fun b => Ending.returned (.bool b)) hv.symm, HB.out.alloc hsz _⟩
    · have hkl : k = ps.length := by omega
      have hv := Si.inside_yes (n := n) (ps := ps) (fun j p hj => hin j p (by rcases Nat.lt_or_ge j ps.length with h' | h'; omega; rw [List.getElem?_eq_none h'] at hj; cases hj) hj)
      have HB := Nu.hid hb
      clear hb hin
      go_wp2
      go_ret
      exact ⟨by first | rfl | exact congrArg (fun b => Ending.returned (.bool b)) hv.symm, HB.out⟩

end Go.Proofs.YtmgjfakdjponoabDoor
