import Derived.Test.YtfjgmbimapkabaaDoorMg30
import Derived.Lib.SlBytesConst
/-
  The fixed fact of layer 17.
-/
namespace Go.Proofs.YtfjgmbimapkabaaDoor
open Go.RowKit

theorem fx_text : Ce.textB ⟨true, [[1], [0], []], []⟩ = [112, 32, 51, 10, 49, 10, 48, 10, 10] := by decide +kernel
def fxA : List UInt8 := [110, 32, 50, 10, 48, 32, 49, 10, 48, 32, 52, 10]
def fxB : List UInt8 := [112, 32, 49, 10, 51, 32, 49, 10]
theorem fx_good : Ce.good ⟨true, [[1], [0], []], []⟩ := by
  unfold Ce.good
  rw [if_pos rfl]
  refine ⟨rfl, fun l hl x hx => ?_, by simp⟩
  simp at hl
  rcases hl with rfl | rfl | rfl
  · simp at hx; subst hx; exact ⟨⟨by omega, by omega⟩, by simp⟩
  · simp at hx; subst hx; exact ⟨⟨by omega, by omega⟩, by simp⟩
  · simp at hx
theorem atF_ofL (L : List UInt8) : Ce.atF L.length (Ce.ofL L) = Ce.ofL L := by
  funext i
  unfold Ce.atF
  by_cases h : i < L.length
  · rw [if_pos h]
  · rw [if_neg h]
    exact ((Ce.ofL_txt L).out i (by omega)).symm
theorem fx_a : Ce.parse (Ce.ofL fxA) 12 = (⟨false, [], [(0, 1), (0, 4)]⟩, 0, 0) := by kernel_rfl
theorem fx_b : Ce.parse (Ce.ofL fxB) 8 = (Ce.zero, 6, 170) := by kernel_rfl

theorem bytes_text {w : World} {b : Nat} {L : List UInt8} {fr : Nat × Nat} (h : w.heap[b]? = some (.cells (Lib.byteCells L).toArray 5 fr)) : HasText w (some ⟨b, 0, none⟩) L.length (Ce.ofL L) := by
  intro i hi
  have hb := (Ce.ofL_txt L).lo i hi
  refine ⟨hb, b, 0, rfl, ?_⟩
  have e : Ce.ofL L i = (L[i].toNat : Int) := by
    unfold Ce.ofL
    rw [List.getElem?_eq_getElem hi]
  rw [cell_of_row w b (0 + i) _ _ _ h, e, Nat.zero_add]
  simp [Lib.byteCells, hi]
theorem fx_lists {w : World} {b : Nat} (h0 : w.heap[b]? = some (.cells #[.int .i64 1] 3 (0, 0))) (h1 : w.heap[b + 1]? = some (.cells #[.int .i64 0] 3 (0, 0)))
    (h3 : w.heap[b + 1 + 1 + 1]? = some (.cells #[.slice (some ⟨b, 0, none⟩) 1 1, .slice (some ⟨b + 1, 0, none⟩) 1 1, .slice (some ⟨b + 1 + 1, 0, none⟩) 0 0] 34 (0, 0))) : Ce.ListsAt w (some ⟨b + 1 + 1 + 1, 0, none⟩) [[1], [0], []] := by
  intro k l hl
  have hk := (List.getElem?_eq_some_iff.1 hl).1
  simp at hk
  rcases (show k = 0 ∨ k = 1 ∨ k = 2 by omega) with rfl | rfl | rfl
  · cases hl
    exact ⟨b + 1 + 1 + 1, 0, some ⟨b, 0, none⟩, 1, rfl, by simp [World.cell?, h3], IntsBlk.at (l := [1]) h0⟩
  · cases hl
    exact ⟨b + 1 + 1 + 1, 0, some ⟨b + 1, 0, none⟩, 1, rfl, by simp [World.cell?, h3], IntsBlk.at (l := [0]) h1⟩
  · cases hl
    exact ⟨b + 1 + 1 + 1, 0, some ⟨b + 1 + 1, 0, none⟩, 0, rfl, by simp [World.cell?, h3], IntsAt.nil _ _⟩

theorem fx_print {w : World} {b : Nat} (h : Ce.ListsAt w (some ⟨b, 0, none⟩) [[1], [0], []]) (ht : Tab w) :
    Calls Tryd.prog 10 #[.agg #[.bool true, .slice (some ⟨b, 0, none⟩) 3 3, .slice none 0 0]] w fun e w' => e = .returned (.tuple #[.string ⟨#[112, 32, 51, 10, 49, 10, 48, 10, 10]⟩, .int .i64 0]) ∧ Below w.heap.size w w' :=
  (print17_any (c := ⟨true, [[1], [0], []], []⟩) (ca := 3) (ce := 0) (eo := none) ⟨rfl, h, EdgesAt.nil _ _⟩ ⟨by simp, by simp, by simp⟩ ht).mono fun e w' hh => by
    obtain ⟨⟨-, h1⟩, h2⟩ := hh
    refine ⟨?_, h2⟩
    have h3 := h1 fx_good
    rw [fx_text] at h3
    rcases h3 with ⟨h4, -⟩ | ⟨-, h4⟩
    · simp at h4
    · exact h4
theorem fx_parse {w : World} {b : Nat} {L : List UInt8} {fr : Nat × Nat} (h : w.heap[b]? = some (.cells (Lib.byteCells L).toArray 5 fr)) (hl : L.length ≤ 4611686018427387904) :
    Calls Tryd.prog 9 #[.slice (some ⟨b, 0, none⟩) L.length L.length] w (ParsP (Ce.parse (Ce.ofL L) L.length) w) := by
  have := parse17_any (cap := L.length) (bytes_text h) (fun x hx => by cases hx; exact ⟨lt_of_block h, rfl⟩) hl (Nat.le_refl _)
  rwa [atF_ofL] at this
theorem fx_parseA {w : World} {b : Nat} {fr : Nat × Nat} (h : w.heap[b]? = some (.cells (Lib.byteCells fxA).toArray 5 fr)) :
    Calls Tryd.prog 9 #[.slice (some ⟨b, 0, none⟩) 12 12] w fun e w' => ∃ ao ca g c, e = .returned (.tuple #[.agg #[.bool false, .slice ao 0 ca, .slice (some ⟨g, 0, none⟩) 2 c], .int .i64 0, .int .i64 0]) ∧ w'.cell? ⟨g, 2, none⟩ = some (.int .i64 0) ∧ w'.cell? ⟨g, 3, none⟩ = some (.int .i64 4) ∧ Below w.heap.size w w' :=
  (fx_parse h (by decide)).mono fun e w' hh => by
    rw [show fxA.length = 12 from rfl, fx_a] at hh
    obtain ⟨hb, v, he, va, ve, vs, hv, hr, ho⟩ := hh
    obtain ⟨ao, ca, rfl⟩ := row_shape hr
    obtain ⟨g, c, rfl⟩ := ho.some (fun e => by rw [e] at ho; have := ho.1; rcases ho.2 with ⟨-, h⟩ | ⟨_, _, _, h, -⟩ <;> cases h)
    obtain ⟨ao', c', e', -, -, hat, -⟩ := ho.form
    cases e'
    obtain ⟨b', o', e'', c0, c1⟩ := hat 1 (0, 4) rfl
    cases e''
    exact ⟨ao, ca, g, c, by rw [he, hv]; rfl, c0, c1, hb⟩
theorem fx_parseB {w : World} {b : Nat} {fr : Nat × Nat} (h : w.heap[b]? = some (.cells (Lib.byteCells fxB).toArray 5 fr)) :
    Calls Tryd.prog 9 #[.slice (some ⟨b, 0, none⟩) 8 8] w fun e w' => ∃ ao ca eo ce, e = .returned (.tuple #[.agg #[.bool false, .slice ao 0 ca, .slice eo 0 ce], .int .i64 6, .int .i64 170]) ∧ Below w.heap.size w w' :=
  (fx_parse h (by decide)).mono fun e w' hh => by
    rw [show fxB.length = 8 from rfl, fx_b] at hh
    obtain ⟨hb, v, he, va, ve, vs, hv, hr, ho⟩ := hh
    obtain ⟨ao, ca, rfl⟩ := row_shape hr
    obtain ⟨eo, ce, rfl, -⟩ := ho.form
    exact ⟨ao, ca, eo, ce, by rw [he, hv]; rfl, hb⟩
set_option maxHeartbeats 4000000 in
set_option maxRecDepth 100000 in
theorem fixed17_any {w : World} (ht : Tab w) : Calls Tryd.prog 11 #[] w fun e w' => e = .returned (.bool true) ∧ Below w.heap.size w w' := by
  go_enter Tryd.func11, Tryd.ntmps11
  have hcv : ∀ (w : World) (C : Array Value) (n c : Nat), (convert 31 31 (.slice (some ⟨w.heap.size, 0, none⟩) n c)).run Tryd.prog (w.alloc (.cells C 5)) = .ok (.slice (some ⟨w.heap.size, 0, none⟩) n c) (w.alloc (.cells C 5 (C.size, C.size + 1))) := fun w C n c => Lib.run_convert_bytes_const w 31 5 C n c Tryd.underlying31 Tryd.underlying5
  have b1 : Below w.heap.size w (w.alloc (.cells #[.int .i64 1] 3)) := (Below.refl _ _).alloc (Nat.le_refl _) _
  have b2 := b1.alloc (by simp) (.cells #[.int .i64 0] 3)
  have b3 := b2.alloc (by simp; omega) (.cells #[] 3)
  have b4 := b3.alloc (by simp; omega) (.cells #[.slice (some ⟨w.heap.size, 0, none⟩) 1 1, .slice (some ⟨w.heap.size + 1, 0, none⟩) 1 1, .slice (some ⟨w.heap.size + 1 + 1, 0, none⟩) 0 0] 34)
  have hL : Ce.ListsAt ((((w.alloc (.cells #[.int .i64 1] 3)).alloc (.cells #[.int .i64 0] 3)).alloc (.cells #[] 3)).alloc (.cells #[.slice (some ⟨w.heap.size, 0, none⟩) 1 1, .slice (some ⟨w.heap.size + 1, 0, none⟩) 1 1, .slice (some ⟨w.heap.size + 1 + 1, 0, none⟩) 0 0] 34)) (some ⟨w.heap.size + 1 + 1 + 1, 0, none⟩) [[1], [0], []] := by
    refine fx_lists ?_ ?_ ?_
    · rw [Below.heap_alloc _ _ _ (by simp; omega), Below.heap_alloc _ _ _ (by simp; omega), Below.heap_alloc _ _ _ (by simp)]
      exact heap_alloc_new w _
    · rw [Below.heap_alloc _ _ _ (by simp), Below.heap_alloc _ _ _ (by simp)]
      have := heap_alloc_new (w.alloc (.cells #[.int .i64 1] 3)) (.cells #[.int .i64 0] 3)
      rwa [World.size_alloc] at this
    · have := heap_alloc_new (((w.alloc (.cells #[.int .i64 1] 3)).alloc (.cells #[.int .i64 0] 3)).alloc (.cells #[] 3)) (.cells #[.slice (some ⟨w.heap.size, 0, none⟩) 1 1, .slice (some ⟨w.heap.size + 1, 0, none⟩) 1 1, .slice (some ⟨w.heap.size + 1 + 1, 0, none⟩) 0 0] 34)
      rwa [World.size_alloc, World.size_alloc, World.size_alloc] at this
  have HP := Nu.hid (fx_print hL (tab_below ht _ b4))
  have HB4 := Nu.hid b4
  clear b1 b2 b3 b4 hL ht
  go_wp2_with (first
    | (go_at_call 10; refine HP.out.mono ?_; rintro e w1 ⟨rfl, hb1⟩; have HB1 := Nu.hid (HB4.out.trans (hb1.mono HB4.out.size)); clear hb1)
    | (go_at_call 9; first
      | (refine (fx_parseA (heap_alloc_new _ (.cells #[.int .u8 110, .int .u8 32, .int .u8 50, .int .u8 10, .int .u8 48, .int .u8 32, .int .u8 49, .int .u8 10, .int .u8 48, .int .u8 32, .int .u8 52, .int .u8 10] 5 (12, 13)))).mono ?_; rintro e w2 ⟨ao, ca, g, c, rfl, c0, c1, hb2⟩; have HB2 := Nu.hid (HB1.out.trans ((((Below.refl _ _).alloc (Nat.le_refl _) _).trans (hb2.mono (by simp))).mono HB1.out.size)); clear hb2; refine Hid.out ?_)))
  refine Nu.hid ?_
  have hz := heap_alloc_new w2 (.cells #[.bool false, .slice ao 0 ca, .slice (some ⟨g, 0, none⟩) 2 c] 27)
  have hbz : Below w2.heap.size w2 ((w2.alloc (.cells #[.bool false, .slice ao 0 ca, .slice (some ⟨g, 0, none⟩) 2 c] 27)).alloc (.cells #[.int .u8 112, .int .u8 32, .int .u8 49, .int .u8 10, .int .u8 51, .int .u8 32, .int .u8 49, .int .u8 10] 5 (8, 9))) := ((Below.refl _ _).alloc (Nat.le_refl _) _).alloc (by simp) _
  have hz2 := (Below.heap_alloc (w2.alloc (.cells #[.bool false, .slice ao 0 ca, .slice (some ⟨g, 0, none⟩) 2 c] 27)) (.cells #[.int .u8 112, .int .u8 32, .int .u8 49, .int .u8 10, .int .u8 51, .int .u8 32, .int .u8 49, .int .u8 10] 5 (8, 9)) w2.heap.size (by simp)).trans hz
  have hN := heap_alloc_new (w2.alloc (.cells #[.bool false, .slice ao 0 ca, .slice (some ⟨g, 0, none⟩) 2 c] 27)) (.cells #[.int .u8 112, .int .u8 32, .int .u8 49, .int .u8 10, .int .u8 51, .int .u8 32, .int .u8 49, .int .u8 10] 5 (8, 9))
  rw [World.size_alloc] at hN
  have HN := Nu.hid hN
  have hcv2 := fun (C : Array Value) (n c' : Nat) => hcv (w2.alloc (.cells #[.bool false, .slice ao 0 ca, .slice (some ⟨g, 0, none⟩) 2 c] 27)) C n c'
  rw [World.size_alloc] at hcv2
  have HZ := Nu.hid hz2
  have HBZ := Nu.hid hbz
  have HC0 := Nu.hid c0
  have HC1 := Nu.hid c1
  clear hz hbz hz2 c0 c1 HP HB4 hN hcv
  go_wp2_with (go_at_call 9; refine (fx_parseB HN.out).mono ?_; rintro e w3 ⟨ao2, ca2, eo2, ce2, rfl, hb3⟩; have hb23 := HBZ.out.trans (hb3.mono HBZ.out.size); have HB3 := Nu.hid (HB2.out.trans (hb23.mono HB2.out.size)); have hz3 := (hb3.block _ (lt_of_block HZ.out)).trans HZ.out; have hc : ∀ (O : Obj) {p : Addr} {x : Value}, w3.cell? p = some x → (w3.alloc O).cell? p = some x := fun O p x h => (((Below.refl w3.heap.size w3).alloc (Nat.le_refl _) O).cell (block_lt_of_cell h)).trans h; have z0 := fun O => hc O (three_cells17 hz3).1; have z1 := fun O => hc O (three_cells17 hz3).2.1; have z2 := fun O => hc O (three_cells17 hz3).2.2.1; have d0 : ∀ O, (w3.alloc O).cell? ⟨g, 2, none⟩ = some (.int .i64 0) := fun O => hc O ((hb23.cell (p := ⟨g, 2, none⟩) (block_lt_of_cell HC0.out)).trans HC0.out); have d1 : ∀ O, (w3.alloc O).cell? ⟨g, 3, none⟩ = some (.int .i64 4) := fun O => hc O ((hb23.cell (p := ⟨g, 3, none⟩) (block_lt_of_cell HC1.out)).trans HC1.out); clear hc; clear hb3 hb23 hz3)
  go_ret
  exact ⟨rfl, HB3.out.alloc HB3.out.size _⟩
end Go.Proofs.YtfjgmbimapkabaaDoor
/-
  A certificate of one's own can be read; what is read is small.
-/
namespace Go.Proofs.YtfjgmbimapkabaaDoor
open Go.RowKit

theorem RowsZ.lists {w : World} {B : Nat} {v : Value} {vs : List Value} {ls : List (List Int)} (h : RowsZ w B v vs ls) : ∃ ao ca, v = .slice ao ls.length ca ∧ Ce.ListsAt w ao ls := by
  obtain ⟨ao, ca, rfl⟩ := row_shape h
  refine ⟨ao, ca, rfl, fun k l hl => ?_⟩
  obtain ⟨x, hx⟩ := h.at' hl
  obtain ⟨xa, xc, rfl, hat, -⟩ := (h.row k x l hx hl).form
  rcases h.outer.2 with ⟨-, h0⟩ | ⟨g, cap, cur, e, -⟩
  · have := (List.getElem?_eq_some_iff.1 hl).1
    omega
  · cases e
    refine ⟨g, 0, xa, xc, rfl, ?_, hat⟩
    rw [Nat.zero_add]
    have := h.outer.cells (g := g) rfl k _ hx
    rwa [addrE] at this
theorem CertAt.sees {w : World} {B : Nat} {v : Value} {c : Ce.Cert} (h : CertAt w B v c) : ∃ ao eo ca ce, Ce.Sees w v c ao eo ca ce := by
  obtain ⟨va, ve, vs, rfl, hr, ho⟩ := h
  obtain ⟨ao, ca, rfl, hl⟩ := hr.lists
  obtain ⟨eo, ce, rfl, -, -, he, -⟩ := ho.form
  exact ⟨ao, eo, ca, ce, rfl, hl, he⟩
theorem CertAt.later {w w' : World} {B : Nat} {v : Value} {c : Ce.Cert} (h : CertAt w B v c) (hb : Below w.heap.size w w') : CertAt w' B v c := by
  obtain ⟨va, ve, vs, rfl, hr, ho⟩ := h
  exact ⟨va, ve, vs, rfl, hr.later hb, ho.below hb (Nat.le_refl _)⟩

namespace Ce
theorem flat_mem {α : Type} (f : α → List UInt8) : ∀ {ls : List α} {l : α}, l ∈ ls → (f l).length ≤ (ls.flatMap f).length
  | x :: r, l, h => by
    rw [List.flatMap_cons, List.length_append]
    rcases List.mem_cons.1 h with rfl | h
    · omega
    · have := flat_mem f h
      omega
theorem textB_body (c : Cert) : (bodyB c).length ≤ (textB c).length := by
  unfold textB
  simp
  omega
/-- What a certificate holds that has a text is no longer than the text. -/
structure Small (c : Cert) : Prop where
  ar : c.ar.length ≤ 1048576
  es : c.es.length ≤ 4194304
  row : ∀ l ∈ c.ar, l.length ≤ 33554432
  txt : (textB c).length ≤ 33554432
theorem small_zero : Small zero := ⟨by decide, by decide, fun l hl => (by cases hl), by decide +kernel⟩
theorem small_of {c : Cert} (hg : good c) (hl : (textB c).length ≤ 33554432) : Small c := by
  obtain ⟨pl, ar, es⟩ := c
  unfold good at hg
  cases pl with
  | true =>
    rw [if_pos rfl] at hg
    obtain ⟨h1, h2, h3⟩ := hg
    dsimp only at h1 h2 h3
    subst h1
    refine ⟨h3, by simp, fun l hl' => ?_, hl⟩
    have e : bodyB ⟨true, ar, []⟩ = ar.flatMap lineB := rfl
    have h4 : (lineB l).length ≤ (ar.flatMap lineB).length := flat_mem lineB hl'
    have h5 := textB_body ⟨true, ar, []⟩
    have h6 := line_lo l
    rw [e] at h5
    omega
  | false =>
    rw [if_neg (by simp)] at hg
    obtain ⟨h1, h2, h3⟩ := hg
    dsimp only at h1 h2 h3
    subst h1
    exact ⟨by simp, h3, fun l hl' => (by cases hl'), hl⟩
theorem parse_small {B : Nat → Int} {n : Nat} (hT : Txt B n) : Small (parse B n).1 := by
  obtain ⟨c, p, k, hp⟩ : ∃ c p k, parse B n = (c, p, k) := ⟨_, _, _, rfl⟩
  rw [hp]
  rcases parse_fault hT with h | ⟨h, -⟩
  · rw [hp] at h
    obtain rfl : k = 0 := h
    obtain ⟨h1, -, h3, h4, -⟩ := parse_is hT hp
    exact small_of h1 (by rw [h3]; exact h4)
  · rw [hp] at h
    obtain rfl : c = zero := h
    exact small_zero
theorem Small.fits {c : Cert} (h : Small c) : Fits c := ⟨Nat.le_trans h.ar (by omega), Nat.le_trans h.es (by omega), fun l hl => Nat.le_trans (h.row l hl) (by omega), fun _ => Nat.le_trans h.txt (by omega)⟩
theorem Small.fitsP {c : Cert} (h : Small c) : Ce.Fits c := h.fits
end Ce
end Go.Proofs.YtfjgmbimapkabaaDoor
