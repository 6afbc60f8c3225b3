import Derived.Test.YtdhaaodalchpkaaSiValid
import Derived.Test.YtdhaaodalchpkaaSiPut
/-
  The graph that pairs make; whether all numbers of pairs are vertices.
-/
namespace Go.Proofs.Ytdhaaodalchpkaa
open Go.RowKit Go.Sort

def Si.inn (n : Int) (p : Int × Int) : Prop := (0 ≤ p.1 ∧ p.1 < n) ∧ 0 ≤ p.2 ∧ p.2 < n
instance (n : Int) (p : Int × Int) : Decidable (Si.inn n p) := by unfold Si.inn; infer_instance
def Si.inside (n : Int) (ps : List (Int × Int)) : Bool := ps.all fun p => decide (Si.inn n p)

theorem Si.inside_no {n : Int} {ps : List (Int × Int)} {k : Nat} {p : Int × Int} (h : ps[k]? = some p) (hp : ¬ Si.inn n p) : Si.inside n ps = false := by
  unfold Si.inside
  rw [List.all_eq_false]
  exact ⟨p, List.mem_of_getElem? h, by simpa using hp⟩

theorem Si.inside_yes {n : Int} {ps : List (Int × Int)} (h : ∀ (j : Nat) (p : Int × Int), ps[j]? = some p → Si.inn n p) : Si.inside n ps = true := by
  unfold Si.inside
  rw [List.all_eq_true]
  intro p hp
  obtain ⟨j, hj, e⟩ := List.mem_iff_getElem.1 hp
  simpa using h j p (by rw [← e]; exact List.getElem?_eq_getElem hj)

theorem Si.inside_at {n : Int} {ps : List (Int × Int)} (h : Si.inside n ps = true) {j : Nat} {p : Int × Int} (hj : ps[j]? = some p) : Si.inn n p := by
  unfold Si.inside at h
  rw [List.all_eq_true] at h
  simpa using h p (List.mem_of_getElem? hj)

/-- The graph of pairs, and the error's number. -/
def Si.mk (n : Int) (ps : List (Int × Int)) : Int × List (Int × Int) × Int :=
  if n < 0 ∨ 1048576 < n ∨ Si.inside n ps = false then (0, [], 2) else if 4194304 < (Si.made [] ps).length then (0, [], 141) else (n, Si.made [] ps, 0)

end Go.Proofs.Ytdhaaodalchpkaa

/-
  The document's own Make.
-/
namespace Go.Proofs.Ytdhaaodalchpkaa
open Go.RowKit Go.Sort

/-- Stores into a block that holds a number and a list leave edges as they are. -/
theorem edges_set2 {w : World} {ao : Option Addr} {l : List (Int × Int)} (h : EdgesAt w ao l) {g : Nat} {x : Value} {a : Option Addr} {n c : Nat} {t : TypeId} (hG : w.heap[g]? = some (.cells #[x, .slice a n c] t (0, 0))) (x' y' : Value) :
    EdgesAt ((w.setCell ⟨g, 0, none⟩ x').setCell ⟨g, 1, none⟩ y') ao l := fun j p hj => by
  obtain ⟨b, o, e, h0, h1⟩ := h j p hj
  have hne : b ≠ g := by
    intro e
    subst e
    simp only [World.cell?, hG] at h1
    rcases (show o + j * 2 + 1 = 1 ∨ 2 ≤ o + j * 2 + 1 by omega) with h2 | h2
    · rw [h2] at h1
      simp at h1
    · rw [Array.getElem?_eq_none (by simpa using h2)] at h1
      cases h1
  have hb : ((w.setCell ⟨g, 0, none⟩ x').setCell ⟨g, 1, none⟩ y').heap[b]? = w.heap[b]? := by
    rw [heap_setCell_other _ ⟨g, 1, none⟩ b y' hne, heap_setCell_other _ ⟨g, 0, none⟩ b x' hne]
  refine ⟨b, o, e, ?_, ?_⟩
  · simp only [World.cell?, hb] at h0 ⊢
    exact h0
  · simp only [World.cell?, hb] at h1 ⊢
    exact h1

def RMakePost (n : Int) (ps : List (Int × Int)) (w : World) (e : Ending) (w' : World) : Prop :=
  ∃ ao cap, e = .returned (.tuple #[.agg #[.int .i64 (Si.mk n ps).1, .slice ao (Si.mk n ps).2.1.length cap], .int .i64 (Si.mk n ps).2.2]) ∧ EdgesAt w' ao (Si.mk n ps).2.1 ∧ Below w.heap.size w w'

/-- The same, and that the list is new memory. -/
def RMakeNew (n : Int) (ps : List (Int × Int)) (w : World) (e : Ending) (w' : World) : Prop :=
  ∃ ao cap, e = .returned (.tuple #[.agg #[.int .i64 (Si.mk n ps).1, .slice ao (Si.mk n ps).2.1.length cap], .int .i64 (Si.mk n ps).2.2]) ∧ EdgesAt w' ao (Si.mk n ps).2.1 ∧ Below w.heap.size w w' ∧ ∀ x, ao = some x → w.heap.size ≤ x.block

theorem new_or {w wr : World} {bo bo2 : Option Addr} (h : ∀ x, bo = some x → w.heap.size ≤ x.block) (hs : w.heap.size ≤ wr.heap.size) (h2 : bo2 = bo ∨ ∀ x, bo2 = some x → wr.heap.size ≤ x.block) : ∀ x, bo2 = some x → w.heap.size ≤ x.block := fun x hx => by
  rcases h2 with rfl | h2
  · exact h x hx
  · exact Nat.le_trans hs (h2 x hx)

set_option maxRecDepth 100000 in
set_option maxHeartbeats 8000000 in
theorem rmake_new (n : Int) (ao : Option Addr) (cap : Nat) (ps : List (Int × Int)) (w : World) (he : EdgesAt w ao ps) (hl : (ps.length + 1) * 16 ≤ 140737488355328) :
    Calls Try.prog 20 #[.int .i64 n, .slice ao ps.length cap] w (RMakeNew n ps w) := by
  have HE := Nu.hid he
  clear he
  have hbwa : Below w.heap.size w (w.alloc (.cells #[.int .i64 0, .slice none 0 0] 24)) := (Below.refl _ _).alloc (Nat.le_refl _) _
  have HBWA := Nu.hid hbwa
  clear hbwa
  by_cases h1 : n < 0
  · have HM : Hid (Si.mk n ps = (0, [], 2)) := by show Si.mk n ps = _; unfold Si.mk; rw [if_pos (.inl h1)]
    go_enter Try.func20, Try.ntmps20
    go_wp2
    refine bodyPost_ret (v := .tuple #[.agg #[.int .i64 0, .slice none 0 0], .int .i64 2]) (by simp [results, Try.results20, go_sem]) rfl ?_
    unfold RMakeNew
    rw [HM.out]
    exact ⟨_, _, rfl, EdgesAt.nil _ _, HBWA.out, fun x h => by cases h⟩
  by_cases h2 : 1048576 < n
  · have HM : Hid (Si.mk n ps = (0, [], 2)) := by show Si.mk n ps = _; unfold Si.mk; rw [if_pos (.inr (.inl h2))]
    go_enter Try.func20, Try.ntmps20
    go_wp2
    refine bodyPost_ret (v := .tuple #[.agg #[.int .i64 0, .slice none 0 0], .int .i64 2]) (by simp [results, Try.results20, go_sem]) rfl ?_
    unfold RMakeNew
    rw [HM.out]
    exact ⟨_, _, rfl, EdgesAt.nil _ _, HBWA.out, fun x h => by cases h⟩
  go_enter Try.func20, Try.ntmps20
  go_wp2
  go_loopw [6] (fun c wr => ∃ k : Nat, k ≤ ps.length ∧ c = .int .i64 k ∧ (∀ (j : Nat) (p : Int × Int), j < k → ps[j]? = some p → Si.inn n p) ∧ wr.heap[w.heap.size]? = some (.cells #[.int .i64 0, .slice none 0 0] 24 (0, 0)) ∧ Below w.heap.size w wr) (fun c _ => ps.length - (intOf c).toNat)
  case atStart => exact ⟨0, Nat.zero_le _, rfl, fun j p h => by omega, heap_alloc_new w _, HBWA.out⟩
  case round =>
    obtain ⟨k, hk, rfl, hin, hG, hb⟩ := hrel
    have hs := lt_of_block hG
    obtain ⟨g0, g1, gf⟩ := pair_cells hG
    have HIN := Nu.hid hin
    have HG := Nu.hid hG
    have HB := Nu.hid hb
    clear hin hG
    by_cases hlt : k < ps.length
    · have hlti : (k : Int) < (ps.length : Int) := by omega
      have hk0 : (0 : Int) ≤ (k : Int) := by omega
      obtain ⟨p, hp⟩ : ∃ p, ps[k]? = some p := ⟨_, List.getElem?_eq_getElem hlt⟩
      obtain ⟨b, o, rfl, c0, c1⟩ := (HE.out.later hb) k p hp
      have hbl : b < wr.heap.size := block_lt_of_cell c0
      have HP := Nu.hid hp
      clear hp hb
      by_cases hi : Si.inn n p
      · have hi' := hi
        unfold Si.inn at hi'
        obtain ⟨⟨i0, i1⟩, i2, i3⟩ := hi'
        have i0' : ¬ (p.1 < 0) := by omega
        have i2' : ¬ (p.2 < 0) := by omega
        go_wp2
        go_roundw
        case rel =>
          refine ⟨k + 1, by omega, by go_num, fun j q hj hq => ?_, HG.out, HB.out⟩
          by_cases hjk : j = k
          · subst hjk; rw [HP.out] at hq; cases hq; exact hi
          · exact HIN.out j q (by omega) hq
        case measure => simp [intOf]; omega
      · have hv := Si.inside_no HP.out (n := n) hi
        have HM : Hid (Si.mk n ps = (0, [], 2)) := by
          show Si.mk n ps = (0, [], 2)
          unfold Si.mk
          rw [if_pos (.inr (.inr hv))]
        clear hv
        by_cases q1 : p.1 < 0
        · go_wp2
          obtain ⟨r0, r1, -⟩ := pair_cells (pair_set HG.out (.int .i64 0) (.slice none 0 0))
          refine bodyPost_ret (v := .tuple #[.agg #[.int .i64 0, .slice none 0 0], .int .i64 2]) (by simp [results, Try.results20, go_sem, r0, r1]) rfl ?_
          unfold RMakeNew
          rw [HM.out]
          exact ⟨_, _, rfl, EdgesAt.nil _ _, (HB.out.setCell (by simp) _).setCell (by simp) _, fun x h => by cases h⟩
        · by_cases q2 : p.1 < n
          · by_cases q3 : p.2 < 0
            · go_wp2
              obtain ⟨r0, r1, -⟩ := pair_cells (pair_set HG.out (.int .i64 0) (.slice none 0 0))
              refine bodyPost_ret (v := .tuple #[.agg #[.int .i64 0, .slice none 0 0], .int .i64 2]) (by simp [results, Try.results20, go_sem, r0, r1]) rfl ?_
              unfold RMakeNew
              rw [HM.out]
              exact ⟨_, _, rfl, EdgesAt.nil _ _, (HB.out.setCell (by simp) _).setCell (by simp) _, fun x h => by cases h⟩
            · have q4 : ¬ (p.2 < n) := fun q4 => hi (by unfold Si.inn; omega)
              go_wp2
              obtain ⟨r0, r1, -⟩ := pair_cells (pair_set HG.out (.int .i64 0) (.slice none 0 0))
              refine bodyPost_ret (v := .tuple #[.agg #[.int .i64 0, .slice none 0 0], .int .i64 2]) (by simp [results, Try.results20, go_sem, r0, r1]) rfl ?_
              unfold RMakeNew
              rw [HM.out]
              exact ⟨_, _, rfl, EdgesAt.nil _ _, (HB.out.setCell (by simp) _).setCell (by simp) _, fun x h => by cases h⟩
          · go_wp2
            obtain ⟨r0, r1, -⟩ := pair_cells (pair_set HG.out (.int .i64 0) (.slice none 0 0))
            refine bodyPost_ret (v := .tuple #[.agg #[.int .i64 0, .slice none 0 0], .int .i64 2]) (by simp [results, Try.results20, go_sem, r0, r1]) rfl ?_
            unfold RMakeNew
            rw [HM.out]
            exact ⟨_, _, rfl, EdgesAt.nil _ _, (HB.out.setCell (by simp) _).setCell (by simp) _, fun x h => by cases h⟩
    · have hkl : k = ps.length := by omega
      have hins : Si.inside n ps = true := Si.inside_yes (fun j p hj => HIN.out j p (by rcases Nat.lt_or_ge j ps.length with h' | h'; omega; rw [List.getElem?_eq_none h'] at hj; cases hj) hj)
      have HMK := Nu.hid (show Si.mk n ps = _ from by unfold Si.mk; rw [if_neg (by simp [hins]; omega)])
      have hd : ¬ ((k : Int) < (ps.length : Int)) := by omega
      clear hins hb g0 g1 gf
      go_wp2
      go_loopw [9, 10] (fun v c wr => ∃ (k cp : Nat) (bo : Option Addr) (l : List (Int × Int)), k ≤ ps.length ∧ c = .int .i64 k ∧ l = Si.made [] (ps.take k) ∧ v = .slice bo l.length cp ∧ EdgesAt wr bo l ∧ (∀ x, bo = some x → w.heap.size ≤ x.block) ∧ wr.heap[w.heap.size]? = some (.cells #[.int .i64 0, .slice none 0 0] 24 (0, 0)) ∧ Below w.heap.size w wr) (fun _ c _ => ps.length - (intOf c).toNat)
      case atStart => exact ⟨0, 0, none, [], Nat.zero_le _, rfl, by simp [Si.made], rfl, EdgesAt.nil _ _, (fun x h => by cases h), HG.out, HB.out⟩
      case round =>
        obtain ⟨k, cp, bo, l, hk, rfl, hl0, rfl, hea, hnew, hG, hb⟩ := hrel
        have HNEW := Nu.hid hnew
        clear hnew
        have hsw : w.heap.size ≤ wr.heap.size := hb.size
        have hs := lt_of_block hG
        obtain ⟨g0, g1, gf⟩ := pair_cells hG
        have HG := Nu.hid hG
        have HB := Nu.hid hb
        have HEA := Nu.hid hea
        have HL0 := Nu.hid hl0
        have hll : l.length ≤ k := by
          rw [hl0]
          have := (Si.made_length (ps.take k) []).2
          simp at this ⊢
          omega
        clear hG hea hl0
        by_cases hlt : k < ps.length
        · have hlti : (k : Int) < (ps.length : Int) := by omega
          have hk0 : (0 : Int) ≤ (k : Int) := by omega
          obtain ⟨p, hp⟩ : ∃ p, ps[k]? = some p := ⟨_, List.getElem?_eq_getElem hlt⟩
          obtain ⟨b, o, hao, c0, c1⟩ := (HE.out.later hb) k p hp
          cases hao
          have hbl := block_lt_of_cell c0
          dsimp only at hbl
          have hsn : Si.made [] (ps.take (k + 1)) = if p.1 = p.2 then l else Si.put l (Si.norm p) := by rw [Si.take_snoc hp, Si.made_snoc, ← HL0.out]
          clear hp hb
          rcases Int.lt_or_le p.1 p.2 with h3 | h3
          · have hno : Si.norm p = (p.1, p.2) := by unfold Si.norm; ext <;> dsimp only <;> omega
            rw [if_neg (by omega), hno] at hsn
            have HSN := Nu.hid hsn
            have hpa := put_any bo cp l (p.1, p.2) wr HEA.out (by omega)
            unfold edgeVal at hpa
            dsimp only at hpa
            have HPA := Nu.hid hpa
            have h3' : ¬ (p.2 < p.1) := by omega
            clear hno hsn hpa
            go_wp2_with (go_at_call 38; refine HPA.out.mono ?_; refine Hid.out ?_)
            refine Nu.hid ?_
            rintro e w2 ⟨bo2, cp2, rfl, hea2, hb2, hnw2⟩
            have HN2 := Nu.hid (new_or HNEW.out hsw hnw2)
            clear hnw2
            have HEA2 := Nu.hid hea2
            have HB2 := Nu.hid (HB.out.trans (hb2.mono HB.out.size))
            have HG2 := Nu.hid ((hb2.block _ hs).trans HG.out)
            clear hea2 hb2
            go_wp2
            go_roundw
            case rel => exact ⟨k + 1, cp2, bo2, _, by omega, by go_num, HSN.out.symm, rfl, HEA2.out, HN2.out, HG2.out, HB2.out⟩
            case measure => simp [intOf]; omega
          · rcases Int.lt_or_le p.2 p.1 with h4 | h4
            · have hno : Si.norm p = (p.2, p.1) := by unfold Si.norm; ext <;> dsimp only <;> omega
              rw [if_neg (by omega), hno] at hsn
              have HSN := Nu.hid hsn
              have hpa := put_any bo cp l (p.2, p.1) wr HEA.out (by omega)
              unfold edgeVal at hpa
              dsimp only at hpa
              have HPA := Nu.hid hpa
              have h3' : ¬ (p.1 < p.2) := by omega
              clear hno hsn hpa
              go_wp2_with (go_at_call 38; refine HPA.out.mono ?_; refine Hid.out ?_)
              refine Nu.hid ?_
              rintro e w2 ⟨bo2, cp2, rfl, hea2, hb2, hnw2⟩
              have HN2 := Nu.hid (new_or HNEW.out hsw hnw2)
              clear hnw2
              have HEA2 := Nu.hid hea2
              have HB2 := Nu.hid (HB.out.trans (hb2.mono HB.out.size))
              have HG2 := Nu.hid ((hb2.block _ hs).trans HG.out)
              clear hea2 hb2
              go_wp2
              go_roundw
              case rel => exact ⟨k + 1, cp2, bo2, _, by omega, by go_num, HSN.out.symm, rfl, HEA2.out, HN2.out, HG2.out, HB2.out⟩
              case measure => simp [intOf]; omega
            · rw [if_pos (by omega)] at hsn
              have HSN := Nu.hid hsn
              have h3' : ¬ (p.1 < p.2) := by omega
              have h4' : ¬ (p.2 < p.1) := by omega
              clear hsn
              go_wp2
              go_roundw
              case rel => exact ⟨k + 1, cp, bo, l, by omega, by go_num, HSN.out.symm, rfl, HEA.out, HNEW.out, HG.out, HB.out⟩
              case measure => simp [intOf]; omega
        · have hd : ¬ ((k : Int) < (ps.length : Int)) := by omega
          have hle : l = Si.made [] ps := by rw [HL0.out, show k = ps.length by omega, List.take_length]
          have HLE := Nu.hid hle
          clear hle hb
          by_cases hbig : 4194304 < l.length
          · have hbi : (4194304 : Int) < (l.length : Int) := by omega
            have HM : Hid (Si.mk n ps = (0, [], 141)) := by
              show Si.mk n ps = _
              rw [HMK.out, if_pos (by rw [← HLE.out]; exact hbig)]
            go_wp2
            obtain ⟨r0, r1, -⟩ := pair_cells (pair_set HG.out (.int .i64 0) (.slice none 0 0))
            refine bodyPost_ret (v := .tuple #[.agg #[.int .i64 0, .slice none 0 0], .int .i64 141]) (by simp [results, Try.results20, go_sem, r0, r1]) rfl ?_
            unfold RMakeNew
            rw [HM.out]
            exact ⟨_, _, rfl, EdgesAt.nil _ _, (HB.out.setCell (by simp) _).setCell (by simp) _, fun x h => by cases h⟩
          · have hbi : ¬ ((4194304 : Int) < (l.length : Int)) := by omega
            have HM : Hid (Si.mk n ps = (n, l, 0)) := by
              show Si.mk n ps = _
              rw [HMK.out, ← HLE.out, if_neg hbig]
            go_wp2
            obtain ⟨r0, r1, -⟩ := pair_cells (pair_set HG.out (.int .i64 n) (.slice bo l.length cp))
            refine bodyPost_ret (v := .tuple #[.agg #[.int .i64 n, .slice bo l.length cp], .int .i64 0]) (by simp [results, Try.results20, go_sem, r0, r1]) rfl ?_
            unfold RMakeNew
            rw [HM.out]
            exact ⟨_, _, rfl, edges_set2 HEA.out HG.out _ _, (HB.out.setCell (by simp) _).setCell (by simp) _, HNEW.out⟩

theorem rmake_any (n : Int) (ao : Option Addr) (cap : Nat) (ps : List (Int × Int)) (w : World) (he : EdgesAt w ao ps) (hl : (ps.length + 1) * 16 ≤ 140737488355328) :
    Calls Try.prog 20 #[.int .i64 n, .slice ao ps.length cap] w (RMakePost n ps w) :=
  (rmake_new n ao cap ps w he hl).mono fun _ _ ⟨a, c, h1, h2, h3, _⟩ => ⟨a, c, h1, h2, h3⟩

end Go.Proofs.Ytdhaaodalchpkaa
