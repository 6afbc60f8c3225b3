/-
  Edges sorted by the library's slices.SortFunc, with the order of this layer.
-/
import Derived.Test.YtdkckdbpbdhoaaaSiSort
import Derived.Test.YtdkckdbpbdhoaaaEdM
import Derived.Shelf.SlSortCmp.NoneTotal
namespace Go.Proofs.Ytdkckdbpbdhoaaa
open Go.RowKit Go.Sort Go.Shelf

theorem esort_any (B g cap : Nat) (acc : List (Int × Int)) (w : World) (hrow : OwnE w B (.slice (some ⟨g, 0, none⟩) acc.length cap) acc) (hl : acc.length < 4611686018427387904) :
    Calls Try.prog 55 #[.slice (some ⟨g, 0, none⟩) acc.length cap, .func (.func 53) #[] #[]] w (SortPost B g cap acc w) := by
  rcases hrow.2 with ⟨h, _⟩ | ⟨g', cap', cur, e, hg, hh, hc, hm, hs, ht⟩
  · cases h
  cases e
  have eg : ∀ args w, (callFunc 53 args).run Try.prog w = .ok (.enter 53 args) w := enters_of Try.func53 (by kernel_rfl) rfl
  have hcmp : CmpLays Try.prog 53 #[] encE 2 Si.cf g 0 acc.toArray.size w := fun _ _ _ _ x y => ecompare_any x y _
  have hcon := AnyQ.slices_SortFunc Try.sortEdges 2 Try.isAgg26 Try.sizeOf26 encE (fun _ => rfl) (fun x v hv => by simp [encE] at hv; rcases hv with rfl | rfl <;> rfl) Si.cf swoE 53 #[] g 0 cap acc.toArray w eg hcmp (holdsE hh ht) (lt_of_block hh) (by simpa using hl)
  change Calls Try.prog 55 _ _ _ at hcon
  have e1 : acc.toArray.size = acc.length := by simp
  rw [e1] at hcon
  refine hcon.mono ?_
  rintro e w' ⟨rfl, d', n, os, hp, hsd, rfl⟩
  have hsz : d'.size = acc.length := hp.1.trans e1
  have hd : d'.toList.toArray = d' := by simp
  refine ⟨rfl, d'.toList, by simpa using hsz, ?_, ?_, ?_, ?_⟩
  · have h3 := hp.2.2
    have e2 : (d'.extract 0 acc.length).toList = d'.toList := by
      rw [← hsz]
      simp
    have e3 : (acc.toArray.extract 0 acc.length).toList = acc := by simp
    rw [e2, e3] at h3
    exact h3
  · intro i j a b hij ha hb
    obtain ⟨hi, ea⟩ := List.getElem?_eq_some_iff.1 ha
    obtain ⟨hj, eb⟩ := List.getElem?_eq_some_iff.1 hb
    have hj' : j < d'.size := by simpa using hj
    have := hsd i j (Nat.zero_le _) hij (by omega)
    rw [ltE, getElem!_pos d' j hj', getElem!_pos d' i (by omega)] at this
    simp at ea eb
    rw [ea, eb] at this
    simpa using this
  · unfold sortWorldK putRowK
    have e4 : d'.toList.length = acc.length := by rw [Array.length_toList, hsz]
    refine ⟨by rw [flatE_length], .inr ⟨g, cap, _, by rw [e4], hg, heap_sortedE _ hh, by rw [e4]; exact hc, hm, by simp [putCells, hs], ?_⟩⟩
    have h1 := take_putCellsE cur (flatK encE 2 d') (by rw [size_flatK, hsz, hs]; omega)
    have h2 : (flatK encE 2 d').toList = flatE d'.toList := by have := flatK_flatE d'.toList; rwa [hd] at this
    rw [h2] at h1
    rw [size_flatK] at h1
    rw [Array.length_toList]
    exact h1
  · exact grownBy_sortedE _

theorem esort_none (p : Option Addr) (cap : Nat) (w : World) : Calls Try.prog 55 #[.slice p 0 cap, .func (.func 53) #[] #[]] w fun e w' => e = .returned (.tuple #[]) ∧ w' = w :=
  AnyF.slices_SortFunc_none Try.sortEdges p cap _ w

/-- Sorted, wherever it lies. -/
theorem esort_own (B : Nat) (v : Value) (acc : List (Int × Int)) (w : World) (hrow : OwnE w B v acc) (hl : acc.length < 4611686018427387904) :
    Calls Try.prog 55 #[v, .func (.func 53) #[] #[]] w fun e w' => e = .returned (.tuple #[]) ∧ ∃ l : List (Int × Int), l.Perm acc ∧ (∀ (i j : Nat) (a b : Int × Int), i < j → l[i]? = some a → l[j]? = some b → ¬ Si.lt b a) ∧ OwnE w' B v l ∧ Below B w w' := by
  rcases hrow.2 with ⟨rfl, h0⟩ | ⟨g, cap, cur, rfl, hg, _⟩
  · have : acc = [] := List.length_eq_zero_iff.1 h0
    subst this
    refine (esort_none none 0 w).mono ?_
    rintro e w' ⟨rfl, rfl⟩
    exact ⟨rfl, [], List.Perm.refl _, fun i j a b _ h => by simp at h, hrow, Below.refl _ _⟩
  · refine (esort_any B g cap acc w hrow hl).mono ?_
    rintro e w' ⟨rfl, l, hll, hp, hs, ho, hgr⟩
    refine ⟨rfl, l, hp, hs, ?_, ?_⟩
    · exact ho
    · exact (Below.refl B w).grown hgr (by have := (World.ownsRow.lt hrow g rfl); omega) (fun b hb => by cases hb; exact hg)

end Go.Proofs.Ytdkckdbpbdhoaaa
