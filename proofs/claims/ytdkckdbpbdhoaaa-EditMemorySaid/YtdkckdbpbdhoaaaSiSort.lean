/-
  Edges sorted by the library's slices.SortFunc.
-/
import Derived.Test.YtdkckdbpbdhoaaaShelf
import Derived.Test.YtdkckdbpbdhoaaaSiOwn
import Derived.Test.YtdkckdbpbdhoaaaMgA
import Derived.Shelf.SlSortCmp.WholeK
namespace Go.Proofs.Ytdkckdbpbdhoaaa
open Go.RowKit Go.Sort Go.Shelf

def encE (x : Int × Int) : List Value := [.int .i64 x.1, .int .i64 x.2]

theorem flatK_at (l : List (Int × Int)) (j : Nat) (p : Int × Int) (h : l[j]? = some p) : (flatK encE 2 l.toArray)[j * 2]! = .int .i64 p.1 ∧ (flatK encE 2 l.toArray)[j * 2 + 1]! = .int .i64 p.2 := by
  have hl : j < l.length := (List.getElem?_eq_some_iff.1 h).1
  have e1 : l.toArray[j]! = p := by
    rw [getElem!_pos l.toArray j (by simpa using hl)]
    rw [List.getElem?_eq_getElem hl] at h
    cases h
    simp
  constructor
  · rw [get_flatK _ _ _ _ (by simp; omega), show j * 2 / 2 = j by omega, show j * 2 % 2 = 0 by omega, e1]
    rfl
  · rw [get_flatK _ _ _ _ (by simp; omega), show (j * 2 + 1) / 2 = j by omega, show (j * 2 + 1) % 2 = 1 by omega, e1]
    rfl

theorem flatK_flatE (l : List (Int × Int)) : (flatK encE 2 l.toArray).toList = flatE l := by
  refine List.ext_getElem? fun t => ?_
  by_cases ht : t < l.length * 2
  · have hs : t < (flatK encE 2 l.toArray).size := by simpa using ht
    have hj : t / 2 < l.length := by omega
    have hp : l[t / 2]? = some l[t / 2] := List.getElem?_eq_getElem hj
    have h1 := flatK_at l (t / 2) _ hp
    have h2 := flatE_at l (t / 2) _ hp
    have e : (flatK encE 2 l.toArray).toList[t]? = some (flatK encE 2 l.toArray)[t]! := by
      rw [getElem!_pos _ t hs]
      simp
    rw [e]
    rcases (show t = t / 2 * 2 ∨ t = t / 2 * 2 + 1 by omega) with h | h
    · rw [h, h1.1, h2.1]
    · rw [h, h1.2, h2.2]
  · rw [List.getElem?_eq_none (by simp; omega), List.getElem?_eq_none (by rw [flatE_length]; omega)]

theorem holdsE {w : World} {g : Nat} {cur : Array Value} {e : TypeId} {l : List (Int × Int)} (hb : w.heap[g]? = some (.cells cur e (0, 0))) (ht : cur.toList.take (l.length * 2) = flatE l) : HoldsK encE 2 w g 0 l.toArray := by
  intro j hj
  have hj' : j < l.length * 2 := by simpa using hj
  refine ⟨?_, by simp [World.frozen?, hb]⟩
  have h1 : (cur.toList.take (l.length * 2))[j]? = (flatK encE 2 l.toArray).toList[j]? := by rw [ht, flatK_flatE]
  rw [List.getElem?_take_of_lt hj'] at h1
  simp only [World.cell?, hb, Nat.zero_add]
  rw [getElem!_pos _ j hj]
  rw [← Array.getElem?_toList, h1]
  simp

theorem heap_sortedE {w : World} {g n : Nat} {os : Array Obj} {cur : Array Value} {e : TypeId} {fr : Nat × Nat} (F : Array Value) (hb : w.heap[g]? = some (.cells cur e fr)) :
    (grow (putRow id (Sort.ahead w n) g 0 F) os).heap[g]? = some (.cells (putCells id 0 F cur) e fr) := by
  have hlt : g < w.heap.size := (Array.getElem?_eq_some_iff.1 hb).1
  have h : (putRow id (Sort.ahead w n) g 0 F).heap[g]? = some (.cells (putCells id 0 F cur) e fr) := by
    simp [putRow, mapBlock, Array.getElem?_modify, Sort.ahead, hb, onCells]
  show ((putRow id (Sort.ahead w n) g 0 F).heap ++ os)[g]? = _
  rw [Array.getElem?_append_left (by simpa using hlt)]
  exact h

theorem grownBy_sortedE {w : World} {g n : Nat} {os : Array Obj} (F : Array Value) : w.grownBy (grow (putRow id (Sort.ahead w n) g 0 F) os) (some g) := by
  refine ⟨rfl, rfl, rfl, by simp [grow, Sort.ahead], fun i hi hne => ?_⟩
  show ((putRow id (Sort.ahead w n) g 0 F).heap ++ os)[i]? = _
  rw [Array.getElem?_append_left (by simpa [Sort.ahead] using hi)]
  have : g ≠ i := fun h => hne (by rw [h])
  simp [putRow, mapBlock, Array.getElem?_modify, Sort.ahead, this]

theorem take_putCellsE (cur F : Array Value) (h : F.size ≤ cur.size) : (putCells id 0 F cur).toList.take F.size = F.toList := by
  refine List.ext_getElem? fun j => ?_
  by_cases hj : j < F.size
  · rw [List.getElem?_take_of_lt hj]
    have hc : j < cur.size := by omega
    simp [putCells, hj, hc]
  · rw [List.getElem?_eq_none (by simp; omega), List.getElem?_eq_none (by simp; omega)]

theorem ltE (x y : Int × Int) : ltOf Si.cf x y = decide (Si.lt x y) := by
  unfold ltOf
  by_cases h : Si.lt x y
  · simp [h, Si.cf_neg.2 h]
  · have : ¬ (Si.cf x y < 0) := fun k => h (Si.cf_neg.1 k)
    simp [h, this]

theorem swoE : SWO (ltOf Si.cf) where
  irrefl x := by rw [ltE]; simp [Si.lt_irrefl]
  trans x y z h1 h2 := by
    rw [ltE] at *
    simp at *
    exact Si.lt_trans h1 h2
  ntrans x y z h1 h2 := by
    rw [ltE] at *
    simp at *
    unfold Si.lt at *
    omega

def SortPost (B g cap : Nat) (acc : List (Int × Int)) (w : World) (e : Ending) (w' : World) : Prop :=
  e = .returned (.tuple #[]) ∧ ∃ l : List (Int × Int), l.length = acc.length ∧ l.Perm acc ∧ (∀ (i j : Nat) (a b : Int × Int), i < j → l[i]? = some a → l[j]? = some b → ¬ Si.lt b a) ∧ OwnE w' B (.slice (some ⟨g, 0, none⟩) acc.length cap) l ∧ w.grownBy w' (some g)

theorem sort_any (B g cap : Nat) (acc : List (Int × Int)) (w : World) (hrow : OwnE w B (.slice (some ⟨g, 0, none⟩) acc.length cap) acc) (hl : acc.length < 4611686018427387904) :
    Calls Try.prog 55 #[.slice (some ⟨g, 0, none⟩) acc.length cap, .func (.func 51) #[] #[]] w (SortPost B g cap acc w) := by
  rcases hrow.2 with ⟨h, _⟩ | ⟨g', cap', cur, e, hg, hh, hc, hm, hs, ht⟩
  · cases h
  cases e
  have eg : ∀ args w, (callFunc 51 args).run Try.prog w = .ok (.enter 51 args) w := enters_of Try.func51 (by kernel_rfl) rfl
  have hcmp : CmpLays Try.prog 51 #[] encE 2 Si.cf g 0 acc.toArray.size w := fun _ _ _ _ x y => compare_any x y _
  have hcon := AnyQ.slices_SortFunc Try.sortEdges 2 Try.isAgg26 Try.sizeOf26 encE (fun _ => rfl) (fun x v hv => by simp [encE] at hv; rcases hv with rfl | rfl <;> rfl) Si.cf swoE 51 #[] g 0 cap acc.toArray w eg hcmp (holdsE hh ht) (lt_of_block hh) (by simpa using hl)
  change Calls Try.prog 55 _ _ _ at hcon
  have e1 : acc.toArray.size = acc.length := by simp
  rw [e1] at hcon
  refine hcon.mono ?_
  rintro e w' ⟨rfl, d', n, os, hp, hsd, rfl⟩
  have hsz : d'.size = acc.length := hp.1.trans e1
  have hd : d'.toList.toArray = d' := by simp
  refine ⟨rfl, d'.toList, by simpa using hsz, ?_, ?_, ?_, ?_⟩
  · have h3 := hp.2.2
    have e2 : (d'.extract 0 acc.length).toList = d'.toList := by
      rw [← hsz]
      simp
    have e3 : (acc.toArray.extract 0 acc.length).toList = acc := by simp
    rw [e2, e3] at h3
    exact h3
  · intro i j a b hij ha hb
    obtain ⟨hi, ea⟩ := List.getElem?_eq_some_iff.1 ha
    obtain ⟨hj, eb⟩ := List.getElem?_eq_some_iff.1 hb
    have hj' : j < d'.size := by simpa using hj
    have := hsd i j (Nat.zero_le _) hij (by omega)
    rw [ltE, getElem!_pos d' j hj', getElem!_pos d' i (by omega)] at this
    simp at ea eb
    rw [ea, eb] at this
    simpa using this
  · unfold sortWorldK putRowK
    have e4 : d'.toList.length = acc.length := by rw [Array.length_toList, hsz]
    refine ⟨by rw [flatE_length], .inr ⟨g, cap, _, by rw [e4], hg, heap_sortedE _ hh, by rw [e4]; exact hc, hm, by simp [putCells, hs], ?_⟩⟩
    have h1 := take_putCellsE cur (flatK encE 2 d') (by rw [size_flatK, hsz, hs]; omega)
    have h2 : (flatK encE 2 d').toList = flatE d'.toList := by have := flatK_flatE d'.toList; rwa [hd] at this
    rw [h2] at h1
    rw [size_flatK] at h1
    rw [Array.length_toList]
    exact h1
  · exact grownBy_sortedE _

end Go.Proofs.Ytdkckdbpbdhoaaa
