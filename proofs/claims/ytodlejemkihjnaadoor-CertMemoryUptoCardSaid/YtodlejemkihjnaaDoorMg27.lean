import Derived.Test.YtodlejemkihjnaaDoorMg26
import Derived.Test.YtodlejemkihjnaaDoorMg13
import Derived.Handy
import Derived.Lib.SlBytesConst
import Derived.Test.YtodlejemkihjnaaDoorMg24
import Derived.Test.YtodlejemkihjnaaDoorMg18
import Derived.Lib.ConvBytes
/-
  The program's Print.
-/
namespace Go.Proofs.YtodlejemkihjnaaDoor
open Go.RowKit

set_option maxHeartbeats 2000000 in
set_option maxRecDepth 100000 in
theorem proofOf17_lists (w : World) (ao eo : Option Addr) (na ca ne ce : Nat) :
    Calls Tryd.prog 11 #[.agg #[.bool true, .slice ao na ca, .slice eo ne ce]] w fun e w' => e = .returned (.tuple #[.iface 60 (.slice ao na ca), .bool ((ne : Int) == 0)]) ∧ Below w.heap.size w w' := by
  go_enter Tryd.func11, Tryd.ntmps11
  go_wp2_with fail
  go_quiet (fail)
  go_wp2
  go_ret2
  exact ⟨rfl, below_drewN ((Below.refl _ _).alloc (Nat.le_refl _) _) _⟩
set_option maxHeartbeats 2000000 in
set_option maxRecDepth 100000 in
theorem proofOf17_edges (w : World) (ao eo : Option Addr) (na ca ne ce : Nat) :
    Calls Tryd.prog 11 #[.agg #[.bool false, .slice ao na ca, .slice eo ne ce]] w fun e w' => e = .returned (.tuple #[.iface 61 (.slice eo ne ce), .bool ((na : Int) == 0)]) ∧ Below w.heap.size w w' := by
  go_enter Tryd.func11, Tryd.ntmps11
  go_wp2_with fail
  go_quiet (fail)
  go_wp2
  go_ret2
  exact ⟨rfl, below_drewN ((Below.refl _ _).alloc (Nat.le_refl _) _) _⟩

set_option maxHeartbeats 2000000 in
set_option maxRecDepth 100000 in
theorem print17_lists {w : World} {ls : List (List Int)} {ao eo : Option Addr} {ca ce : Nat} (ha : Ce.ListsAt w ao ls) (hs : ls.length ≤ 4611686018427387904) (hl : ∀ l ∈ ls, l.length ≤ 4611686018427387) (ht : Tab w) :
    Calls Tryd.prog 6 #[.agg #[.bool true, .slice ao ls.length ca, .slice eo 0 ce]] w fun e w' => PrintP ⟨true, ls, []⟩ e ∧ Below w.heap.size w w' := by
  have hz : Below w.heap.size w (w.alloc (.cells #[.bool true, .slice ao ls.length ca, .slice eo 0 ce] 25)) := (Below.refl _ _).alloc (Nat.le_refl _) _
  have hgd : Ce.good ⟨true, ls, []⟩ ↔ Ce.okLs ls := by
    unfold Ce.good
    rw [if_pos rfl]
    exact ⟨fun h => ⟨h.2.1, h.2.2⟩, fun h => ⟨rfl, h.1, h.2⟩⟩
  have HZ := Nu.hid hz
  have HA := Nu.hid ha
  have HGD := Nu.hid hgd
  clear hz ha hgd
  by_cases hok : Ce.okLs ls
  · have HOK := Nu.hid hok
    clear hok
    go_enter Tryd.func6, Tryd.ntmps6
    go_wp2_with (first
      | (go_at_call 11; refine (proofOf17_lists _ _ _ _ _ _ _).mono ?_; rintro e w1 ⟨rfl, hb1⟩; have HB := Nu.hid (HZ.out.trans (hb1.mono HZ.out.size)); clear hb1)
      | (go_at_call 79; refine (pfitsL17_any (c := ca) (HA.out.later HB.out) hs (fun l h => Nat.le_trans (hl l h) (by omega))).mono ?_; rintro e w2 ⟨⟨t, rfl, htt⟩, hb2⟩; obtain rfl := htt.2 HOK.out; have HB2 := Nu.hid (HB.out.trans (hb2.mono HB.out.size)); clear hb2 htt)
      | (go_at_call 12; refine (write17_lists (ca := ca) (HA.out.later HB2.out) HOK.out hl (tab_below ht _ HB2.out) _ rfl).mono ?_; rintro e w3 ⟨hp, hb3⟩; rcases hp with ⟨hp1, rfl⟩ | ⟨hp1, rfl⟩))
    · go_ret2
      exact ⟨⟨fun hn => absurd (HGD.out.2 HOK.out) hn, fun _ => .inl ⟨hp1, rfl⟩⟩, HB2.out.trans (hb3.mono HB2.out.size)⟩
    · go_ret2
      exact ⟨⟨fun hn => absurd (HGD.out.2 HOK.out) hn, fun _ => .inr ⟨hp1, rfl⟩⟩, HB2.out.trans (hb3.mono HB2.out.size)⟩
  · have HOK := Nu.hid hok
    clear hok
    go_enter Tryd.func6, Tryd.ntmps6
    go_wp2_with (first
      | (go_at_call 11; refine (proofOf17_lists _ _ _ _ _ _ _).mono ?_; rintro e w1 ⟨rfl, hb1⟩; have HB := Nu.hid (HZ.out.trans (hb1.mono HZ.out.size)); clear hb1)
      | (go_at_call 79; refine (pfitsL17_any (c := ca) (HA.out.later HB.out) hs (fun l h => Nat.le_trans (hl l h) (by omega))).mono ?_; rintro e w2 ⟨⟨t, rfl, htt⟩, hb2⟩; obtain rfl : t = false := by { cases t with | false => rfl | true => exact absurd (htt.1 rfl) HOK.out }; have HB2 := Nu.hid (HB.out.trans (hb2.mono HB.out.size)); clear hb2 htt))
    go_ret2
    exact ⟨⟨fun _ => rfl, fun h => absurd (HGD.out.1 h) HOK.out⟩, HB2.out⟩
theorem print17_lists_no {w : World} {na ne : Nat} {ao eo : Option Addr} {ca ce : Nat} (hn : ne ≠ 0) :
    Calls Tryd.prog 6 #[.agg #[.bool true, .slice ao na ca, .slice eo ne ce]] w fun e w' => e = .returned (.tuple #[.string ⟨#[]⟩, .int .i64 170]) ∧ Below w.heap.size w w' := by
  have hz : Below w.heap.size w (w.alloc (.cells #[.bool true, .slice ao na ca, .slice eo ne ce] 25)) := (Below.refl _ _).alloc (Nat.le_refl _) _
  have hni : ((ne : Int) == 0) = false := by simp [hn]
  go_enter Tryd.func6, Tryd.ntmps6
  go_wp2_with (go_at_call 11; refine (proofOf17_lists _ _ _ _ _ _ _).mono ?_; rw [hni]; rintro e w1 ⟨rfl, hb1⟩)
  go_ret2
  exact ⟨rfl, hz.trans (hb1.mono hz.size)⟩

set_option maxHeartbeats 2000000 in
set_option maxRecDepth 100000 in
theorem print17_edges {w : World} {es : List (Int × Int)} {ao eo : Option Addr} {ca ce : Nat} (ha : EdgesAt w eo es) (hs : es.length ≤ 4611686018427387904) (ht : Tab w) :
    Calls Tryd.prog 6 #[.agg #[.bool false, .slice ao 0 ca, .slice eo es.length ce]] w fun e w' => PrintP ⟨false, [], es⟩ e ∧ Below w.heap.size w w' := by
  have hz : Below w.heap.size w (w.alloc (.cells #[.bool false, .slice ao 0 ca, .slice eo es.length ce] 25)) := (Below.refl _ _).alloc (Nat.le_refl _) _
  have hgd : Ce.good ⟨false, [], es⟩ ↔ Ce.okEs es := by
    unfold Ce.good
    rw [if_neg (by simp)]
    exact ⟨fun h => ⟨h.2.1, h.2.2⟩, fun h => ⟨rfl, h.1, h.2⟩⟩
  have HZ := Nu.hid hz
  have HA := Nu.hid ha
  have HGD := Nu.hid hgd
  clear hz ha hgd
  by_cases hok : Ce.okEs es
  · have HOK := Nu.hid hok
    clear hok
    go_enter Tryd.func6, Tryd.ntmps6
    go_wp2_with (first
      | (go_at_call 11; refine (proofOf17_edges _ _ _ _ _ _ _).mono ?_; rintro e w1 ⟨rfl, hb1⟩; have HB := Nu.hid (HZ.out.trans (hb1.mono HZ.out.size)); clear hb1)
      | (go_at_call 81; refine (pfitsE17_any (c := ce) (HA.out.later HB.out) hs).mono ?_; rintro e w2 ⟨⟨t, rfl, htt⟩, hb2⟩; obtain rfl := htt.2 HOK.out; have HB2 := Nu.hid (HB.out.trans (hb2.mono HB.out.size)); clear hb2 htt)
      | (go_at_call 12; refine (write17_edges (ca := ce) (HA.out.later HB2.out) HOK.out (tab_below ht _ HB2.out) _ rfl).mono ?_; rintro e w3 ⟨hp, hb3⟩; rcases hp with ⟨hp1, rfl⟩ | ⟨hp1, rfl⟩))
    · go_ret2
      exact ⟨⟨fun hn => absurd (HGD.out.2 HOK.out) hn, fun _ => .inl ⟨hp1, rfl⟩⟩, HB2.out.trans (hb3.mono HB2.out.size)⟩
    · go_ret2
      exact ⟨⟨fun hn => absurd (HGD.out.2 HOK.out) hn, fun _ => .inr ⟨hp1, rfl⟩⟩, HB2.out.trans (hb3.mono HB2.out.size)⟩
  · have HOK := Nu.hid hok
    clear hok
    go_enter Tryd.func6, Tryd.ntmps6
    go_wp2_with (first
      | (go_at_call 11; refine (proofOf17_edges _ _ _ _ _ _ _).mono ?_; rintro e w1 ⟨rfl, hb1⟩; have HB := Nu.hid (HZ.out.trans (hb1.mono HZ.out.size)); clear hb1)
      | (go_at_call 81; refine (pfitsE17_any (c := ce) (HA.out.later HB.out) hs).mono ?_; rintro e w2 ⟨⟨t, rfl, htt⟩, hb2⟩; obtain rfl : t = false := by { cases t with | false => rfl | true => exact absurd (htt.1 rfl) HOK.out }; have HB2 := Nu.hid (HB.out.trans (hb2.mono HB.out.size)); clear hb2 htt))
    go_ret2
    exact ⟨⟨fun _ => rfl, fun h => absurd (HGD.out.1 h) HOK.out⟩, HB2.out⟩
theorem print17_edges_no {w : World} {na ne : Nat} {ao eo : Option Addr} {ca ce : Nat} (hn : na ≠ 0) :
    Calls Tryd.prog 6 #[.agg #[.bool false, .slice ao na ca, .slice eo ne ce]] w fun e w' => e = .returned (.tuple #[.string ⟨#[]⟩, .int .i64 170]) ∧ Below w.heap.size w w' := by
  have hz : Below w.heap.size w (w.alloc (.cells #[.bool false, .slice ao na ca, .slice eo ne ce] 25)) := (Below.refl _ _).alloc (Nat.le_refl _) _
  have hni : ((na : Int) == 0) = false := by simp [hn]
  go_enter Tryd.func6, Tryd.ntmps6
  go_wp2_with (go_at_call 11; refine (proofOf17_edges _ _ _ _ _ _ _).mono ?_; rw [hni]; rintro e w1 ⟨rfl, hb1⟩)
  go_ret2
  exact ⟨rfl, hz.trans (hb1.mono hz.size)⟩

/-- The numbers that the program's Print asks. -/
structure Ce.FitsP (c : Ce.Cert) : Prop where
  ar : c.ar.length ≤ 4611686018427387904
  es : c.es.length ≤ 4611686018427387904
  row : ∀ l ∈ c.ar, l.length ≤ 4611686018427387
theorem print17_any {w : World} {v : Value} {c : Ce.Cert} {ao eo : Option Addr} {ca ce : Nat} (h : Ce.Sees w v c ao eo ca ce) (hf : Ce.FitsP c) (ht : Tab w) :
    Calls Tryd.prog 6 #[v] w fun e w' => PrintP c e ∧ Below w.heap.size w w' := by
  rw [h.val]
  have ha := h.ar
  have he := h.es
  have h1 := hf.ar
  have h2 := hf.es
  have h3 := hf.row
  clear h hf
  obtain ⟨pl, ar, es⟩ := c
  dsimp only at ha he h1 h2 h3 ⊢
  cases pl with
  | true =>
    cases es with
    | nil => exact print17_lists ha h1 h3 ht
    | cons p r =>
      refine (print17_lists_no (by simp)).mono fun e w' h => ⟨⟨fun _ => h.1, fun hg => ?_⟩, h.2⟩
      unfold Ce.good at hg
      rw [if_pos rfl] at hg
      exact absurd hg.1 (by simp)
  | false =>
    cases ar with
    | nil => exact print17_edges he h2 ht
    | cons p r =>
      refine (print17_edges_no (by simp)).mono fun e w' h => ⟨⟨fun _ => h.1, fun hg => ?_⟩, h.2⟩
      unfold Ce.good at hg
      rw [if_neg (by simp)] at hg
      exact absurd hg.1 (by simp)
end Go.Proofs.YtodlejemkihjnaaDoor

/-
  The fixed fact of layer 17.
-/
namespace Go.Proofs.YtodlejemkihjnaaDoor
open Go.RowKit

theorem fx_text : Ce.textB ⟨true, [[1], [0], []], []⟩ = [112, 32, 51, 10, 49, 10, 48, 10, 10] := by decide +kernel
def fxA : List UInt8 := [110, 32, 50, 10, 48, 32, 49, 10, 48, 32, 52, 10]
def fxB : List UInt8 := [112, 32, 49, 10, 51, 32, 49, 10]
theorem fx_good : Ce.good ⟨true, [[1], [0], []], []⟩ := by
  unfold Ce.good
  rw [if_pos rfl]
  refine ⟨rfl, fun l hl x hx => ?_, by simp⟩
  simp at hl
  rcases hl with rfl | rfl | rfl
  · simp at hx; subst hx; exact ⟨⟨by omega, by omega⟩, by simp⟩
  · simp at hx; subst hx; exact ⟨⟨by omega, by omega⟩, by simp⟩
  · simp at hx
theorem atF_ofL (L : List UInt8) : Ce.atF L.length (Ce.ofL L) = Ce.ofL L := by
  funext i
  unfold Ce.atF
  by_cases h : i < L.length
  · rw [if_pos h]
  · rw [if_neg h]
    exact ((Ce.ofL_txt L).out i (by omega)).symm
theorem fx_a : Ce.parse (Ce.ofL fxA) 12 = (⟨false, [], [(0, 1), (0, 4)]⟩, 0, 0) := by kernel_rfl
theorem fx_b : Ce.parse (Ce.ofL fxB) 8 = (Ce.zero, 6, 170) := by kernel_rfl

theorem bytes_text {w : World} {b : Nat} {L : List UInt8} {fr : Nat × Nat} (h : w.heap[b]? = some (.cells (Lib.byteCells L).toArray 5 fr)) : HasText w (some ⟨b, 0, none⟩) L.length (Ce.ofL L) := by
  intro i hi
  have hb := (Ce.ofL_txt L).lo i hi
  refine ⟨hb, b, 0, rfl, ?_⟩
  have e : Ce.ofL L i = (L[i].toNat : Int) := by
    unfold Ce.ofL
    rw [List.getElem?_eq_getElem hi]
  rw [cell_of_row w b (0 + i) _ _ _ h, e, Nat.zero_add]
  simp [Lib.byteCells, hi]
theorem fx_lists {w : World} {b : Nat} (h0 : w.heap[b]? = some (.cells #[.int .i64 1] 3 (0, 0))) (h1 : w.heap[b + 1]? = some (.cells #[.int .i64 0] 3 (0, 0)))
    (h3 : w.heap[b + 1 + 1 + 1]? = some (.cells #[.slice (some ⟨b, 0, none⟩) 1 1, .slice (some ⟨b + 1, 0, none⟩) 1 1, .slice (some ⟨b + 1 + 1, 0, none⟩) 0 0] 39 (0, 0))) : Ce.ListsAt w (some ⟨b + 1 + 1 + 1, 0, none⟩) [[1], [0], []] := by
  intro k l hl
  have hk := (List.getElem?_eq_some_iff.1 hl).1
  simp at hk
  rcases (show k = 0 ∨ k = 1 ∨ k = 2 by omega) with rfl | rfl | rfl
  · cases hl
    exact ⟨b + 1 + 1 + 1, 0, some ⟨b, 0, none⟩, 1, rfl, by simp [World.cell?, h3], IntsBlk.at (l := [1]) h0⟩
  · cases hl
    exact ⟨b + 1 + 1 + 1, 0, some ⟨b + 1, 0, none⟩, 1, rfl, by simp [World.cell?, h3], IntsBlk.at (l := [0]) h1⟩
  · cases hl
    exact ⟨b + 1 + 1 + 1, 0, some ⟨b + 1 + 1, 0, none⟩, 0, rfl, by simp [World.cell?, h3], IntsAt.nil _ _⟩

theorem fx_print {w : World} {b : Nat} (h : Ce.ListsAt w (some ⟨b, 0, none⟩) [[1], [0], []]) (ht : Tab w) :
    Calls Tryd.prog 6 #[.agg #[.bool true, .slice (some ⟨b, 0, none⟩) 3 3, .slice none 0 0]] w fun e w' => e = .returned (.tuple #[.string ⟨#[112, 32, 51, 10, 49, 10, 48, 10, 10]⟩, .int .i64 0]) ∧ Below w.heap.size w w' :=
  (print17_any (c := ⟨true, [[1], [0], []], []⟩) (ca := 3) (ce := 0) (eo := none) ⟨rfl, h, EdgesAt.nil _ _⟩ ⟨by simp, by simp, by simp⟩ ht).mono fun e w' hh => by
    obtain ⟨⟨-, h1⟩, h2⟩ := hh
    refine ⟨?_, h2⟩
    have h3 := h1 fx_good
    rw [fx_text] at h3
    rcases h3 with ⟨h4, -⟩ | ⟨-, h4⟩
    · simp at h4
    · exact h4
theorem fx_parse {w : World} {b : Nat} {L : List UInt8} {fr : Nat × Nat} (h : w.heap[b]? = some (.cells (Lib.byteCells L).toArray 5 fr)) (hl : L.length ≤ 4611686018427387904) :
    Calls Tryd.prog 9 #[.slice (some ⟨b, 0, none⟩) L.length L.length] w (ParsP (Ce.parse (Ce.ofL L) L.length) w) := by
  have := parse17_any (cap := L.length) (bytes_text h) (fun x hx => by cases hx; exact ⟨lt_of_block h, rfl⟩) hl (Nat.le_refl _)
  rwa [atF_ofL] at this
theorem fx_parseA {w : World} {b : Nat} {fr : Nat × Nat} (h : w.heap[b]? = some (.cells (Lib.byteCells fxA).toArray 5 fr)) :
    Calls Tryd.prog 9 #[.slice (some ⟨b, 0, none⟩) 12 12] w fun e w' => ∃ ao ca g c, e = .returned (.tuple #[.agg #[.bool false, .slice ao 0 ca, .slice (some ⟨g, 0, none⟩) 2 c], .int .i64 0, .int .i64 0]) ∧ w'.cell? ⟨g, 2, none⟩ = some (.int .i64 0) ∧ w'.cell? ⟨g, 3, none⟩ = some (.int .i64 4) ∧ Below w.heap.size w w' :=
  (fx_parse h (by decide)).mono fun e w' hh => by
    rw [show fxA.length = 12 from rfl, fx_a] at hh
    obtain ⟨hb, v, he, va, ve, vs, hv, hr, ho⟩ := hh
    obtain ⟨ao, ca, rfl⟩ := row_shape hr
    obtain ⟨g, c, rfl⟩ := ho.some (fun e => by rw [e] at ho; have := ho.1; rcases ho.2 with ⟨-, h⟩ | ⟨_, _, _, h, -⟩ <;> cases h)
    obtain ⟨ao', c', e', -, -, hat, -⟩ := ho.form
    cases e'
    obtain ⟨b', o', e'', c0, c1⟩ := hat 1 (0, 4) rfl
    cases e''
    exact ⟨ao, ca, g, c, by rw [he, hv]; rfl, c0, c1, hb⟩
theorem fx_parseB {w : World} {b : Nat} {fr : Nat × Nat} (h : w.heap[b]? = some (.cells (Lib.byteCells fxB).toArray 5 fr)) :
    Calls Tryd.prog 9 #[.slice (some ⟨b, 0, none⟩) 8 8] w fun e w' => ∃ ao ca eo ce, e = .returned (.tuple #[.agg #[.bool false, .slice ao 0 ca, .slice eo 0 ce], .int .i64 6, .int .i64 170]) ∧ Below w.heap.size w w' :=
  (fx_parse h (by decide)).mono fun e w' hh => by
    rw [show fxB.length = 8 from rfl, fx_b] at hh
    obtain ⟨hb, v, he, va, ve, vs, hv, hr, ho⟩ := hh
    obtain ⟨ao, ca, rfl⟩ := row_shape hr
    obtain ⟨eo, ce, rfl, -⟩ := ho.form
    exact ⟨ao, ca, eo, ce, by rw [he, hv]; rfl, hb⟩
set_option maxHeartbeats 4000000 in
set_option maxRecDepth 100000 in
theorem fixed17_any {w : World} (ht : Tab w) : Calls Tryd.prog 4 #[] w fun e w' => e = .returned (.bool true) ∧ Below w.heap.size w w' := by
  go_enter Tryd.func4, Tryd.ntmps4
  have hcv : ∀ (w : World) (C : Array Value) (n c : Nat), (convert 26 26 (.slice (some ⟨w.heap.size, 0, none⟩) n c)).run Tryd.prog (w.alloc (.cells C 5)) = .ok (.slice (some ⟨w.heap.size, 0, none⟩) n c) (w.alloc (.cells C 5 (C.size, C.size + 1))) := fun w C n c => Lib.run_convert_bytes_const w 26 5 C n c Tryd.underlying26 Tryd.underlying5
  have b1 : Below w.heap.size w (w.alloc (.cells #[.int .i64 1] 3)) := (Below.refl _ _).alloc (Nat.le_refl _) _
  have b2 := b1.alloc (by simp) (.cells #[.int .i64 0] 3)
  have b3 := b2.alloc (by simp; omega) (.cells #[] 3)
  have b4 := b3.alloc (by simp; omega) (.cells #[.slice (some ⟨w.heap.size, 0, none⟩) 1 1, .slice (some ⟨w.heap.size + 1, 0, none⟩) 1 1, .slice (some ⟨w.heap.size + 1 + 1, 0, none⟩) 0 0] 39)
  have hL : Ce.ListsAt ((((w.alloc (.cells #[.int .i64 1] 3)).alloc (.cells #[.int .i64 0] 3)).alloc (.cells #[] 3)).alloc (.cells #[.slice (some ⟨w.heap.size, 0, none⟩) 1 1, .slice (some ⟨w.heap.size + 1, 0, none⟩) 1 1, .slice (some ⟨w.heap.size + 1 + 1, 0, none⟩) 0 0] 39)) (some ⟨w.heap.size + 1 + 1 + 1, 0, none⟩) [[1], [0], []] := by
    refine fx_lists ?_ ?_ ?_
    · rw [Below.heap_alloc _ _ _ (by simp; omega), Below.heap_alloc _ _ _ (by simp; omega), Below.heap_alloc _ _ _ (by simp)]
      exact heap_alloc_new w _
    · rw [Below.heap_alloc _ _ _ (by simp), Below.heap_alloc _ _ _ (by simp)]
      have := heap_alloc_new (w.alloc (.cells #[.int .i64 1] 3)) (.cells #[.int .i64 0] 3)
      rwa [World.size_alloc] at this
    · have := heap_alloc_new (((w.alloc (.cells #[.int .i64 1] 3)).alloc (.cells #[.int .i64 0] 3)).alloc (.cells #[] 3)) (.cells #[.slice (some ⟨w.heap.size, 0, none⟩) 1 1, .slice (some ⟨w.heap.size + 1, 0, none⟩) 1 1, .slice (some ⟨w.heap.size + 1 + 1, 0, none⟩) 0 0] 39)
      rwa [World.size_alloc, World.size_alloc, World.size_alloc] at this
  have HP := Nu.hid (fx_print hL (tab_below ht _ b4))
  have HB4 := Nu.hid b4
  clear b1 b2 b3 b4 hL ht
  go_wp2_with (first
    | (go_at_call 6; refine HP.out.mono ?_; rintro e w1 ⟨rfl, hb1⟩; have HB1 := Nu.hid (HB4.out.trans (hb1.mono HB4.out.size)); clear hb1)
    | (go_at_call 9; first
      | (refine (fx_parseA (heap_alloc_new _ (.cells #[.int .u8 110, .int .u8 32, .int .u8 50, .int .u8 10, .int .u8 48, .int .u8 32, .int .u8 49, .int .u8 10, .int .u8 48, .int .u8 32, .int .u8 52, .int .u8 10] 5 (12, 13)))).mono ?_; rintro e w2 ⟨ao, ca, g, c, rfl, c0, c1, hb2⟩; have HB2 := Nu.hid (HB1.out.trans ((((Below.refl _ _).alloc (Nat.le_refl _) _).trans (hb2.mono (by simp))).mono HB1.out.size)); clear hb2; refine Hid.out ?_)))
  refine Nu.hid ?_
  have hz := heap_alloc_new w2 (.cells #[.bool false, .slice ao 0 ca, .slice (some ⟨g, 0, none⟩) 2 c] 25)
  have hbz : Below w2.heap.size w2 ((w2.alloc (.cells #[.bool false, .slice ao 0 ca, .slice (some ⟨g, 0, none⟩) 2 c] 25)).alloc (.cells #[.int .u8 112, .int .u8 32, .int .u8 49, .int .u8 10, .int .u8 51, .int .u8 32, .int .u8 49, .int .u8 10] 5 (8, 9))) := ((Below.refl _ _).alloc (Nat.le_refl _) _).alloc (by simp) _
  have hz2 := (Below.heap_alloc (w2.alloc (.cells #[.bool false, .slice ao 0 ca, .slice (some ⟨g, 0, none⟩) 2 c] 25)) (.cells #[.int .u8 112, .int .u8 32, .int .u8 49, .int .u8 10, .int .u8 51, .int .u8 32, .int .u8 49, .int .u8 10] 5 (8, 9)) w2.heap.size (by simp)).trans hz
  have hN := heap_alloc_new (w2.alloc (.cells #[.bool false, .slice ao 0 ca, .slice (some ⟨g, 0, none⟩) 2 c] 25)) (.cells #[.int .u8 112, .int .u8 32, .int .u8 49, .int .u8 10, .int .u8 51, .int .u8 32, .int .u8 49, .int .u8 10] 5 (8, 9))
  rw [World.size_alloc] at hN
  have HN := Nu.hid hN
  have hcv2 := fun (C : Array Value) (n c' : Nat) => hcv (w2.alloc (.cells #[.bool false, .slice ao 0 ca, .slice (some ⟨g, 0, none⟩) 2 c] 25)) C n c'
  rw [World.size_alloc] at hcv2
  have HZ := Nu.hid hz2
  have HBZ := Nu.hid hbz
  have HC0 := Nu.hid c0
  have HC1 := Nu.hid c1
  clear hz hbz hz2 c0 c1 HP HB4 hN hcv
  go_wp2_with (go_at_call 9; refine (fx_parseB HN.out).mono ?_; rintro e w3 ⟨ao2, ca2, eo2, ce2, rfl, hb3⟩; have hb23 := HBZ.out.trans (hb3.mono HBZ.out.size); have HB3 := Nu.hid (HB2.out.trans (hb23.mono HB2.out.size)); have hz3 := (hb3.block _ (lt_of_block HZ.out)).trans HZ.out; have hc : ∀ (O : Obj) {p : Addr} {x : Value}, w3.cell? p = some x → (w3.alloc O).cell? p = some x := fun O p x h => (((Below.refl w3.heap.size w3).alloc (Nat.le_refl _) O).cell (block_lt_of_cell h)).trans h; have z0 := fun O => hc O (three_cells17 hz3).1; have z1 := fun O => hc O (three_cells17 hz3).2.1; have z2 := fun O => hc O (three_cells17 hz3).2.2.1; have d0 : ∀ O, (w3.alloc O).cell? ⟨g, 2, none⟩ = some (.int .i64 0) := fun O => hc O ((hb23.cell (p := ⟨g, 2, none⟩) (block_lt_of_cell HC0.out)).trans HC0.out); have d1 : ∀ O, (w3.alloc O).cell? ⟨g, 3, none⟩ = some (.int .i64 4) := fun O => hc O ((hb23.cell (p := ⟨g, 3, none⟩) (block_lt_of_cell HC1.out)).trans HC1.out); clear hc; clear hb3 hb23 hz3)
  go_ret
  exact ⟨rfl, HB3.out.alloc HB3.out.size _⟩
end Go.Proofs.YtodlejemkihjnaaDoor

/-
  What the laws on certificates ask, over and over.
-/
namespace Go.Proofs.YtodlejemkihjnaaDoor
open Go.RowKit

namespace Ce
theorem body_lists : ∀ ls : List (List Int), (∀ l ∈ ls, ∀ x ∈ l, okN x) → (ls.flatMap lineB).length ≤ 10 * (ls.map fun l => l.length + 1).sum
  | [], _ => by simp
  | l :: r, h => by
    have h1 := body_lists r (fun l hl => h l (by simp [hl]))
    have h2 := line_hi l (h l (by simp))
    rw [List.flatMap_cons, List.length_append, List.map_cons, List.sum_cons]
    omega
theorem body_edges : ∀ es : List (Int × Int), (∀ p ∈ es, okN p.1 ∧ okN p.2) → (es.flatMap edgeB).length ≤ 21 * es.length
  | [], _ => by simp
  | p :: r, h => by
    have h1 := body_edges r (fun p hp => h p (by simp [hp]))
    have h2 := h p (by simp)
    have h3 := line_hi [p.1, p.2] (fun x hx => by
      simp at hx
      rcases hx with rfl | rfl
      · exact h2.1
      · exact h2.2)
    rw [← edge_line] at h3
    rw [List.flatMap_cons, List.length_append, List.length_cons]
    simp at h3
    omega
end Ce
theorem CertIn.txt {w : World} {pl : Bool} {ao eo : Option Addr} {ce : Nat} {ls : List (List Int)} {es : List (Int × Int)} (h : CertIn w pl ao ls eo ce es) (hg : Ce.good ⟨pl, ls, es⟩) : (Ce.textB ⟨pl, ls, es⟩).length ≤ 30000000 := by
  have hs := h.sum
  have hl := sum_len ls
  unfold Ce.good at hg
  cases pl with
  | true =>
    rw [if_pos rfl] at hg
    obtain ⟨h1, h2, h3⟩ := hg
    dsimp only at h1 h2 h3
    have hb := Ce.body_lists ls (fun l hl x hx => (h2 l hl x hx).1)
    have hd := Ce.dg_short (x := (ls.length : Int)) ⟨by omega, by omega⟩
    have e : (Ce.textB ⟨true, ls, es⟩).length = 2 + ((Ce.dg (ls.length : Int)).length + ((ls.flatMap Ce.lineB).length + 1)) := by
      unfold Ce.textB Ce.cntC Ce.bodyB
      simp
      omega
    omega
  | false =>
    rw [if_neg (by simp)] at hg
    obtain ⟨h1, h2, h3⟩ := hg
    dsimp only at h1 h2 h3
    have hb := Ce.body_edges es (fun p hp => ⟨(h2.1 p hp).1, (h2.1 p hp).2.1⟩)
    have hd := Ce.dg_short (x := (es.length : Int)) ⟨by omega, by omega⟩
    have e : (Ce.textB ⟨false, ls, es⟩).length = 2 + ((Ce.dg (es.length : Int)).length + ((es.flatMap Ce.edgeB).length + 1)) := by
      unfold Ce.textB Ce.cntC Ce.bodyB
      simp
      omega
    omega
theorem CertIn.row {w : World} {pl : Bool} {ao eo : Option Addr} {ce : Nat} {ls : List (List Int)} {es : List (Int × Int)} (h : CertIn w pl ao ls eo ce es) : ∀ l ∈ ls, l.length ≤ 1048576 := fun l hl => by
  have := sum_mem hl
  have := h.sum
  omega
theorem CertIn.num {w : World} {pl : Bool} {ao eo : Option Addr} {ce : Nat} {ls : List (List Int)} {es : List (Int × Int)} (h : CertIn w pl ao ls eo ce es) : ls.length ≤ 1048576 ∧ es.length ≤ 1048576 := by
  have := sum_len ls
  have := h.sum
  omega
theorem CertIn.fits {w : World} {pl : Bool} {ao eo : Option Addr} {ce : Nat} {ls : List (List Int)} {es : List (Int × Int)} (h : CertIn w pl ao ls eo ce es) : Ce.Fits ⟨pl, ls, es⟩ :=
  ⟨Nat.le_trans h.num.1 (by omega), Nat.le_trans h.num.2 (by omega), fun l hl => Nat.le_trans (h.row l hl) (by omega), fun hg => Nat.le_trans (h.txt hg) (by omega)⟩
theorem CertIn.fitsP {w : World} {pl : Bool} {ao eo : Option Addr} {ce : Nat} {ls : List (List Int)} {es : List (Int × Int)} (h : CertIn w pl ao ls eo ce es) : Ce.FitsP ⟨pl, ls, es⟩ :=
  ⟨Nat.le_trans h.num.1 (by omega), Nat.le_trans h.num.2 (by omega), fun l hl => Nat.le_trans (h.row l hl) (by omega)⟩
theorem CertIn.sees {w : World} {pl : Bool} {ao eo : Option Addr} {ca ce : Nat} {ls : List (List Int)} {es : List (Int × Int)} (h : CertIn w pl ao ls eo ce es) : Ce.Sees w (.agg #[.bool pl, .slice ao ls.length ca, .slice eo es.length ce]) ⟨pl, ls, es⟩ ao eo ca ce := ⟨rfl, h.ar.lists, h.ed⟩
theorem CertIn.copy {w : World} {pl : Bool} {ao eo : Option Addr} {ca ce : Nat} {ls : List (List Int)} {es : List (Int × Int)} (h : CertIn w pl ao ls eo ce es) :
    Calls Tryd.prog 5 #[.agg #[.bool pl, .slice ao ls.length ca, .slice eo es.length ce]] w fun e w' => Below w.heap.size w w' ∧ ∃ v, e = .returned v ∧ CertAt w' w.heap.size v ⟨pl, ls, es⟩ :=
  rcopy17_any h.ar h.ed h.nil (Nat.le_trans h.num.1 (by omega)) (Nat.le_trans h.num.2 (by omega))

/-- What a print gives, told ahead. -/
structure Ce.Pr (c : Ce.Cert) (L : List UInt8) (k : Int) : Prop where
  code : k = 0 ∨ k = 10 ∨ k = 170
  yes : k = 0 → Ce.good c ∧ L = Ce.textB c ∧ L.length ≤ 33554432
  no : k ≠ 0 → L = []
  one : ∀ e, PrintP c e → e = .returned (.tuple #[.string ⟨L.toArray⟩, .int .i64 k])
theorem Ce.pr_is (c : Ce.Cert) : ∃ L k, Ce.Pr c L k := by
  by_cases hg : Ce.good c
  · by_cases hl : (Ce.textB c).length ≤ 33554432
    · refine ⟨Ce.textB c, 0, .inl rfl, fun _ => ⟨hg, rfl, hl⟩, fun h => absurd rfl h, fun e he => ?_⟩
      rcases he.2 hg with ⟨h1, -⟩ | ⟨-, h1⟩
      · omega
      · exact h1
    · refine ⟨[], 10, .inr (.inl rfl), fun h => absurd h (by decide), fun _ => rfl, fun e he => ?_⟩
      rcases he.2 hg with ⟨-, h1⟩ | ⟨h1, -⟩
      · exact h1
      · omega
  · exact ⟨[], 170, .inr (.inr rfl), fun h => absurd h (by decide), fun _ => rfl, fun e he => he.1 hg⟩
/-- The program's Print of a copy. -/
theorem CertAt.print {w : World} {B : Nat} {v : Value} {c : Ce.Cert} {L : List UInt8} {k : Int} (h : CertAt w B v c) (hf : Ce.FitsP c) (ht : Tab w) (hp : Ce.Pr c L k) :
    Calls Tryd.prog 6 #[v] w fun e w' => e = .returned (.tuple #[.string ⟨L.toArray⟩, .int .i64 k]) ∧ Below w.heap.size w w' := by
  obtain ⟨ao, eo, ca, ce, hs⟩ := h.sees
  exact (print17_any hs hf ht).mono fun e w' h => ⟨hp.one e h.1, h.2⟩
end Go.Proofs.YtodlejemkihjnaaDoor

/-
  Certificates from the bytes of a string; bytes back to a string.
-/
namespace Go.Proofs.YtodlejemkihjnaaDoor
open Go.RowKit

theorem sb_below (w : World) (s : ByteArray) : Below w.heap.size w (Lib.bytesWorld w 5 s) :=
  ⟨rfl, rfl, rfl, by rw [Lib.bytesWorld_size]; omega, fun k hk => Lib.bytesWorld_at_old w _ _ k hk⟩
theorem sb_text (w : World) (L : List UInt8) : HasText (Lib.bytesWorld w 5 ⟨L.toArray⟩) (some ⟨w.heap.size, 0, none⟩) L.length (Ce.ofL L) := fun i hi => by
  have hb := (Ce.ofL_txt L).lo i hi
  refine ⟨hb, w.heap.size, 0, rfl, ?_⟩
  have hsz : (⟨L.toArray⟩ : ByteArray).size = L.length := by simp [ByteArray.size]
  have hc := Lib.bytesWorld_cell w 5 ⟨L.toArray⟩ i (by rw [hsz]; exact hi)
  have e : Ce.ofL L i = (L[i].toNat : Int) := by
    unfold Ce.ofL
    rw [List.getElem?_eq_getElem hi]
  rw [Nat.zero_add, hc, e]
  simp [List.getD_eq_getElem?_getD, hi]
theorem sb_conv (L : List UInt8) (w : World) : (convert 9 26 (.string ⟨L.toArray⟩)).run Tryd.prog w = .ok (.slice (some ⟨w.heap.size, 0, none⟩) L.length (grownCap w L.length 0 5)) (Lib.bytesWorld w 5 ⟨L.toArray⟩) := by
  have h := Lib.run_convert_string_bytes (P := Tryd.prog) w 9 26 5 ⟨L.toArray⟩ Tryd.underlying9 Tryd.underlying26 Tryd.underlying5
  have hsz : (⟨L.toArray⟩ : ByteArray).size = L.length := by simp [ByteArray.size]
  rw [hsz] at h
  exact h
theorem sb_parse (L : List UInt8) (w : World) (hl : L.length ≤ 4611686018427387904) :
    Calls Tryd.prog 9 #[.slice (some ⟨w.heap.size, 0, none⟩) L.length (grownCap w L.length 0 5)] (Lib.bytesWorld w 5 ⟨L.toArray⟩) (ParsP (Ce.parse (Ce.ofL L) L.length) (Lib.bytesWorld w 5 ⟨L.toArray⟩)) := by
  have := parse17_any (cap := grownCap w L.length 0 5) (sb_text w L) (fun x hx => by cases hx; exact ⟨by rw [Lib.bytesWorld_size]; exact Nat.lt_succ_self _, rfl⟩) hl (grownCap_ge w L.length 0 5)
  rwa [atF_ofL] at this

/-- What is parsed, told ahead. -/
theorem ParsP.cert {c : Ce.Cert} {p k : Int} {w w' : World} {e : Ending} {n m : Nat} {pl : Bool} (h : ParsP (c, p, k) w e w') (hp : c.pl = pl) (hn : c.ar.length = n) (hm : c.es.length = m) : Below w.heap.size w w' ∧ ∃ ao ca eo ce, e = .returned (.tuple #[.agg #[.bool pl, .slice ao n ca, .slice eo m ce], .int .i64 p, .int .i64 k]) ∧ CertAt w' w.heap.size (.agg #[.bool pl, .slice ao n ca, .slice eo m ce]) c := by
  subst hp hn hm
  obtain ⟨hb, v, rfl, va, ve, vs, rfl, hrw, how⟩ := h
  obtain ⟨ao, ca, rfl⟩ := row_shape hrw
  obtain ⟨eo, ce, rfl, -⟩ := how.form
  exact ⟨hb, ao, ca, eo, ce, rfl, _, _, vs, rfl, hrw, how⟩
theorem Ce.Small.toP {c : Ce.Cert} (h : Ce.Small c) : Ce.FitsP c := ⟨Nat.le_trans h.ar (by omega), Nat.le_trans h.es (by omega), fun l hl => Nat.le_trans (h.row l hl) (by omega)⟩
theorem box_below (w : World) (x y z : Value) : Below w.heap.size w (w.alloc (.cells #[x, y, z] 25)) := (Below.refl _ _).alloc (Nat.le_refl _) _

/-- Bytes that are a text's, back to a string. -/
theorem row_string {w : World} {ao : Option Addr} {n cap : Nat} {g : Nat → Int} {L : List UInt8} (h : HasText w ao n g) (hn : L.length = n) (h0 : 0 < n) (hL : ∀ i x, L[i]? = some x → g i = (x.toNat : Int)) : (convert 26 9 (.slice ao n cap)).run Tryd.prog w = .ok (.string ⟨L.toArray⟩) w := by
  obtain ⟨-, tb, to', rfl, -⟩ := h 0 h0
  subst hn
  refine run_convert_bytes_back (P := Tryd.prog) _ 26 9 5 ⟨tb, to', none⟩ cap L Tryd.underlying26 Tryd.underlying5 Tryd.underlying9 ?_
  intro j hj
  obtain ⟨-, tb', to'', e, hc⟩ := h j hj
  cases e
  have ea : ((⟨tb, to', none⟩ : Addr).add j) = ⟨tb, to' + j, none⟩ := by unfold Addr.add; split <;> simp_all
  rw [ea, hc, hL j L[j] (List.getElem?_eq_getElem hj)]
end Go.Proofs.YtodlejemkihjnaaDoor
