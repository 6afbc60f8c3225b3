/-
  That the fixed fact of the statements of layer 3 is true.
-/
import Derived.Test.YtmgjfakdjponoabDoorSiMake
import Derived.Test.YtmgjfakdjponoabDoorSiText
import Derived.Test.YtmgjfakdjponoabDoorSiEnds
import Derived.Test.YtmgjfakdjponoabDoorSiFind
import Derived.Test.YtmgjfakdjponoabDoorSiEq
namespace Go.Proofs.YtmgjfakdjponoabDoor
open Go.RowKit Go.Sort

namespace Si
def wps : List (Int × Int) := [(2, 1), (0, 0), (1, 2), (0, 2)]
def wes : List (Int × Int) := [(0, 2), (1, 2)]
theorem made_w : made [] wps = wes := by decide +kernel
theorem mk_w : mk 3 wps = (3, wes, 0) := by decide +kernel
theorem val_w : Val 3 wes := by
  have h : inside 3 wps = true := by decide +kernel
  have := made_val (n := 3) (ps := wps) (by omega) (by omega) (fun j p hj => inside_at h hj) (by rw [made_w]; decide)
  rwa [made_w] at this
theorem text_w : text 3 wes = ([51, 32, 50, 10, 48, 32, 50, 10, 49, 32, 50, 10], 0) := by
  have e : Pa.body ((3, ((2 : Nat) : Int)) :: wes) = [51, 32, 50, 10, 48, 32, 50, 10, 49, 32, 50, 10] := by decide +kernel
  have el : wes.length = 2 := rfl
  unfold text
  rw [if_pos (valid_iff.2 val_w), el, if_neg (by decide), e, if_neg (by decide)]
theorem ends_w : ends 3 wes 3 = (2, 1, true) := by
  unfold ends
  rw [if_pos ⟨valid_iff.2 val_w, by decide, by decide⟩]
  rfl
theorem find_w {r : Int} (h : IsFind 3 wes (1, 2) r) : r = 1 := h.same (.inl ⟨1, val_w, rfl, rfl⟩)
end Si

theorem lit_pairs (w : World) (k : Nat) (hk : w.heap.size = k) (es : List (Int × Int)) (t : TypeId) : EdgesAt (w.alloc (.cells (flatE es).toArray t)) (some ⟨k, 0, none⟩) es := fun j p hj => by
  subst hk
  obtain ⟨h0, h1⟩ := flatE_at es j p hj
  refine ⟨_, _, rfl, ?_, ?_⟩
  · rw [Nat.zero_add, cell_of_row _ _ _ _ _ _ (heap_alloc_new w _)]
    simpa using h0
  · rw [Nat.zero_add, cell_of_row _ _ _ _ _ _ (heap_alloc_new w _)]
    simpa using h1

set_option maxRecDepth 100000 in
set_option maxHeartbeats 8000000 in
theorem wakes_any (w : World) (ht : Tab w) :
    Calls Tryd.prog 5 #[] w fun e w' => e = .returned (.bool true) ∧ Below w.heap.size w w' := by
  have HTAB := Nu.hid ht
  clear ht
  have hmk := make_any 3 (some ⟨w.heap.size, 0, none⟩) 4 Si.wps (w.alloc (.cells (flatE Si.wps).toArray 34)) (lit_pairs w _ rfl Si.wps _) (by decide)
  have HMK := Nu.hid hmk
  clear hmk
  go_enter Tryd.func5, Tryd.ntmps5
  go_wp2_with (go_at_call 10; refine HMK.out.mono ?_; refine Hid.out ?_)
  refine Nu.hid ?_
  rintro e w1 ⟨v, he, hown, hb1⟩
  rw [Si.mk_w] at he hown
  dsimp only at he hown
  subst he
  obtain ⟨ao, cap, rfl, _, _, hea, _⟩ := hown.form
  obtain ⟨b, o, rfl, c0, c1⟩ := hea 0 (0, 2) rfl
  obtain ⟨b', o', e', c2, c3⟩ := hea 1 (1, 2) rfl
  cases e'
  have hbl := block_lt_of_cell c0
  have HEA := Nu.hid hea
  have HB1 := Nu.hid (((Below.refl w.heap.size w).alloc (Nat.le_refl _) (.cells (flatE Si.wps).toArray 34)).trans (hb1.mono (by simp)))
  have hs1 := HB1.out.size
  have hlen : Si.wes.length = 2 := rfl
  rw [hlen]
  dsimp only at hbl
  simp at c0 c1 c2 c3
  clear hown hb1 hea hlen
  have eqP := eqEdge
  have htx := fun W (hb : Below w1.heap.size w1 W) => text_any 3 (some ⟨b, o, none⟩) cap Si.wes W (HEA.out.later hb) (by decide) (HTAB.out.below (HB1.out.trans (hb.mono hs1)))
  have hen := fun W (hb : Below w1.heap.size w1 W) => ends_any 3 (some ⟨b, o, none⟩) cap Si.wes 3 W (HEA.out.later hb) (by decide)
  have hva := fun W (hb : Below w1.heap.size w1 W) => valid_any 3 (some ⟨b, o, none⟩) cap Si.wes W (HEA.out.later hb) (by decide)
  have hfi := fun W (hb : Below w1.heap.size w1 W) => find_any 3 (some ⟨b, o, none⟩) cap Si.wes (1, 2) W (HEA.out.later hb) (by decide)
  rw [Si.text_w] at htx
  rw [Si.ends_w] at hen
  rw [Si.valid_iff.2 Si.val_w] at hva
  unfold graphVal edgeVal at *
  unfold textVal at htx
  have HTX := Nu.hid htx
  have HEN := Nu.hid hen
  have HVA := Nu.hid hva
  have HFI := Nu.hid hfi
  clear htx hen hva hfi
  have hbG : Below w1.heap.size w1 (w1.alloc (.cells #[.int .i64 3, .slice (some ⟨b, o, none⟩) 2 cap] 24)) := (Below.refl _ _).alloc (Nat.le_refl _) _
  have HBG := Nu.hid hbG
  clear hbG
  go_wp2_with (go_at_call 8; refine (HTX.out _ HBG.out).mono ?_; rintro e w2 ⟨rfl, hb2⟩; refine Hid.out ?_)
  refine Nu.hid ?_
  clear eqP c0 c1 c2 c3
  have hG2 : w2.heap[w1.heap.size]? = some (.cells #[.int .i64 3, .slice (some ⟨b, o, none⟩) 2 cap] 24 (0, 0)) := (hb2.block _ (by simp)).trans (heap_alloc_new w1 _)
  have HB2 := Nu.hid (HBG.out.trans (hb2.mono HBG.out.size))
  have hs2 := lt_of_block hG2
  obtain ⟨g0, g1, -⟩ := pair_cells hG2
  have HG2 := Nu.hid hG2
  clear hb2 hG2
  go_wp2_with (go_at_call 19; refine (HEN.out _ HB2.out).mono ?_; rintro e w3 ⟨rfl, hb3⟩; refine Hid.out ?_)
  refine Nu.hid ?_
  have hG3 := (hb3.block _ hs2).trans HG2.out
  have HB3 := Nu.hid (HB2.out.trans (hb3.mono HB2.out.size))
  have hs3 := lt_of_block hG3
  clear g0 g1
  obtain ⟨g0, g1, -⟩ := pair_cells hG3
  have HG3 := Nu.hid hG3
  clear hb3 hG3
  go_wp2_with (go_at_call 6; refine (HVA.out _ HB3.out).mono ?_; rintro e w4 ⟨rfl, hb4⟩; refine Hid.out ?_)
  refine Nu.hid ?_
  have hG4 := (hb4.block _ hs3).trans HG3.out
  have HB4 := Nu.hid (HB3.out.trans (hb4.mono HB3.out.size))
  have hs4 := lt_of_block hG4
  clear g0 g1
  obtain ⟨g0, g1, -⟩ := pair_cells hG4
  clear hb4 hG4
  go_wp2_with (go_at_call 20; refine (HFI.out _ HB4.out).mono ?_; refine Hid.out ?_)
  refine Nu.hid ?_
  rintro e w5 ⟨⟨r, hr, rfl⟩, hb5⟩
  have hr1 := Si.find_w hr
  subst hr1
  have HB5 := Nu.hid (HB4.out.trans (hb5.mono HB4.out.size))
  clear hb5 hr
  go_wp2
  go_ret
  exact ⟨by simp, HB1.out.trans (HB5.out.mono hs1)⟩

end Go.Proofs.YtmgjfakdjponoabDoor
