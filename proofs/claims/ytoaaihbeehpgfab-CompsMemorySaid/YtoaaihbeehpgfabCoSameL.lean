/-
  Lists of lists that are alike.
-/
import Derived.Test.YtoaaihbeehpgfabCoGrp
import Derived.Deep.RegionHeld3
namespace Go.Proofs.Ytoaaihbeehpgfab
open Go.RowKit Go.Sort

set_option maxRecDepth 100000 in
set_option maxHeartbeats 8000000 in
/-- Lists of lists that are alike are the same. -/
theorem samelists_any (B B' : Nat) (v v' : Value) (vs vs' : List Value) (ls : List (List Int)) (w : World) (h : RowsZ w B v vs ls) (h' : RowsZ w B' v' vs' ls) (hl : ls.length ≤ 4611686018427387904) (hll : ∀ l ∈ ls, l.length ≤ 4611686018427387904) :
    Calls Try.prog 11 #[v, v'] w fun e w' => e = .returned (.bool true) ∧ Below w.heap.size w w' := by
  obtain ⟨ao, c, rfl⟩ := row_shape h
  obtain ⟨ao', c', rfl⟩ := row_shape h'
  have H := Nu.hid h
  have H' := Nu.hid h'
  have HLL := Nu.hid hll
  have j1 : ((ls.length : Int) != (ls.length : Int)) = false := by simp
  clear h h' hll
  go_enter Try.func11, Try.ntmps11
  go_wp2
  go_loopw [5] (fun cv wr => ∃ k : Nat, k ≤ ls.length ∧ cv = .int .i64 (k : Int) ∧ Below w.heap.size w wr) (fun cv _ => ls.length - (intOf cv).toNat)
  case atStart => exact ⟨0, Nat.zero_le _, rfl, Below.refl _ _⟩
  case round =>
    obtain ⟨k, hk, rfl, hb⟩ := hrel
    have HB := Nu.hid hb
    by_cases hlt : k < ls.length
    · have hlti : (k : Int) < (ls.length : Int) := by omega
      have hk0 : (0 : Int) ≤ (k : Int) := by omega
      obtain ⟨l, hlk⟩ : ∃ l, ls[k]? = some l := ⟨_, List.getElem?_eq_getElem hlt⟩
      have h1 := H.out.later hb
      have h2 := H'.out.later hb
      obtain ⟨x, hx⟩ := h1.at' hlk
      obtain ⟨y, hy⟩ := h2.at' hlk
      obtain ⟨xo, xc, hxe, hxa, -⟩ := (h1.row k x l hx hlk).form
      obtain ⟨yo, yc, hye, hya, -⟩ := (h2.row k y l hy hlk).form
      subst hxe
      subst hye
      obtain ⟨g, gc, e1⟩ := row_form h1 (by omega)
      obtain ⟨g', gc', e2⟩ := row_form h2 (by omega)
      cases e1
      cases e2
      have ea : ∀ G : Nat, ((⟨G, 0, none⟩ : Addr).add k) = ⟨G, k, none⟩ := fun G => by
        by_cases h0 : k = 0 <;> simp [Addr.add, h0]
      have cx := World.ownsRow.cells h1.outer (g := g) rfl k _ hx
      have cy := World.ownsRow.cells h2.outer (g := g') rfl k _ hy
      rw [ea] at cx cy
      have hsz : l.length ≤ 4611686018427387904 := HLL.out l (List.mem_of_getElem? hlk)
      have hsame : ∀ W, Below wr.heap.size wr W → Calls Try.prog 10 #[.slice xo l.length xc, .slice yo l.length yc] W fun e w' => e = .returned (.bool true) ∧ Below W.heap.size W w' := fun W hbW => by
        refine (sameints_any xo yo xc yc l.length l.length l l W rfl rfl (hxa.later hbW) (hya.later hbW) hsz).mono ?_
        rintro e w' ⟨h1, h2⟩
        exact ⟨by rw [h1]; simp, h2⟩
      have HSAME := Nu.hid hsame
      obtain ⟨p1, hp1⟩ : ∃ p1, l.length = p1 := ⟨_, rfl⟩
      rw [hp1] at cx cy HSAME
      have hS : ∀ W, Below wr.heap.size wr W → (W.cell? ⟨g, k, none⟩ = some (.slice xo p1 xc) ∧ W.cell? ⟨g', k, none⟩ = some (.slice yo p1 yc) ∧ Below wr.heap.size wr W) := fun W hbW =>
        ⟨(hbW.cell (p := ⟨g, k, none⟩) (block_lt_of_cell cx)).trans cx, (hbW.cell (p := ⟨g', k, none⟩) (block_lt_of_cell cy)).trans cy, hbW⟩
      have HS := Nu.hid hS
      have hbr : Below wr.heap.size wr wr.drew := (Below.refl _ _).drew
      clear h1 h2 hx hy hxa hya hlk hb hsame hS ea hp1 hsz
      go_wp2_with fail
      go_region_held3 (fun W => W.cell? ⟨g, k, none⟩ = some (.slice xo p1 xc) ∧ W.cell? ⟨g', k, none⟩ = some (.slice yo p1 yc) ∧ Below wr.heap.size wr W)
        (exact HS.out _ (by first | assumption | exact hbr))
        ((go_at_call 10; refine (HSAME.out _ (by first | assumption | exact hbr)).mono ?_; rintro e w6 ⟨rfl, hbs⟩; have hbz : Below wr.heap.size wr w6 := Below.trans (by first | assumption | exact hbr) (hbs.mono (Below.size (by first | assumption | exact hbr)))))
      have HBZ := Nu.hid (HB.out.trans (hbz.mono HB.out.size))
      clear hbz hbs HSAME HS hbr
      go_wp2
      go_roundw
      case rel => exact ⟨k + 1, by omega, by go_num, HBZ.out⟩
      case measure => simp [intOf]; omega
    · have hd : ¬ ((k : Int) < (ls.length : Int)) := by omega
      clear hb
      go_wp2
      go_ret
      exact ⟨rfl, HB.out⟩

end Go.Proofs.Ytoaaihbeehpgfab
