/-
  The document's small functions of layer 15.
-/
import Derived.Test.YtdhaaodalchpkaaMgA
import Derived.Test.YtdhaaodalchpkaaMgF
import Derived.Test.YtdhaaodalchpkaaMgB
import Derived.Test.YtdhaaodalchpkaaLwQ
import Derived.Sort.Grow
namespace Go.Proofs.Ytdhaaodalchpkaa
open Go.RowKit Go.Sort

set_option maxRecDepth 100000 in
set_option maxHeartbeats 1000000 in
theorem kother_any (a b v : Int) (w : World) : Calls Try.prog 61 #[.agg #[.int .i64 a, .int .i64 b], .int .i64 v] w fun e w' => e = .returned (.int .i64 (if a = v then b else a)) ∧ Below w.heap.size w w' := by
  have hbw0 : Below w.heap.size w (w.alloc (.cells #[.int .i64 a, .int .i64 b] 57)) := (Below.refl _ _).alloc (Nat.le_refl _) _
  have HB := Nu.hid hbw0
  clear hbw0
  by_cases h1 : a = v
  · rw [if_pos h1]
    have d1 : (a == v) = true := by simp [h1]
    clear h1
    go_enter Try.func61, Try.ntmps61
    go_wp2
    go_ret
    exact ⟨rfl, HB.out⟩
  · rw [if_neg h1]
    have d1 : (a == v) = false := by simp [h1]
    go_enter Try.func61, Try.ntmps61
    go_wp2
    go_ret
    exact ⟨rfl, HB.out⟩

/-- An edge at v that isn't e; -1: there is none. -/
def Ku.IsOn (es : List (Int × Int)) (v e r : Int) : Prop := (r = -1 ∧ ∀ (i : Nat) (p : Int × Int), es[i]? = some p → (i : Int) ≠ e → p.1 ≠ v ∧ p.2 ≠ v) ∨ ∃ (i : Nat) (p : Int × Int), r = (i : Int) ∧ es[i]? = some p ∧ (i : Int) ≠ e ∧ (p.1 = v ∨ p.2 = v)

set_option maxRecDepth 100000 in
set_option maxHeartbeats 4000000 in
theorem kon_any (n : Int) (ao : Option Addr) (cap : Nat) (es : List (Int × Int)) (v x : Int) (w : World) (he : EdgesAt w ao es) (hl : es.length ≤ 4611686018427387904) :
    Calls Try.prog 62 #[.agg #[.int .i64 n, .slice ao es.length cap], .int .i64 v, .int .i64 x] w fun e w' => ∃ r, e = .returned (.int .i64 r) ∧ Ku.IsOn es v x r ∧ Below w.heap.size w w' := by
  obtain ⟨W, hW⟩ : ∃ W, W = w.alloc (.cells #[.int .i64 n, .slice ao es.length cap] 24) := ⟨_, rfl⟩
  have hB0 : Below w.heap.size w W := by rw [hW]; exact (Below.refl _ _).alloc (Nat.le_refl _) _
  have g1 : W.heap[w.heap.size]? = some (.cells #[.int .i64 n, .slice ao es.length cap] 24 (0, 0)) := by rw [hW]; exact heap_alloc_new w _
  obtain ⟨-, c1, -⟩ := pair_cells g1
  have HE := Nu.hid (he.later hB0)
  have HB := Nu.hid hB0
  have HW := Nu.hid hW
  clear he hB0 g1 hW
  go_enter Try.func62, Try.ntmps62
  go_wp2_with fail
  rw [← HW.out]
  go_wp2
  go_loopw [7] (fun cv wr => ∃ k : Nat, k ≤ es.length ∧ cv = .int .i64 (k : Int) ∧ (∀ (i : Nat) (p : Int × Int), i < k → es[i]? = some p → (i : Int) ≠ x → p.1 ≠ v ∧ p.2 ≠ v) ∧ wr = W) (fun cv _ => es.length - (intOf cv).toNat)
  case atStart => exact ⟨0, Nat.zero_le _, rfl, fun i p hi => by omega, rfl⟩
  case round =>
    obtain ⟨k, hk, rfl, hno, hwr⟩ := hrel
    obtain rfl := hwr.symm
    have HNO := Nu.hid hno
    have hwk : IntKind.i64.wrap ((k : Int) + 1) = (k : Int) + 1 := by rw [IntKind.wrap_i64]; omega
    clear hwr hno
    by_cases hlt : k < es.length
    · have hlti : (k : Int) < (es.length : Int) := by omega
      have hk0 : (0 : Int) ≤ (k : Int) := by omega
      obtain ⟨⟨p1, p2⟩, hp⟩ : ∃ p, es[k]? = some p := ⟨_, List.getElem?_eq_getElem hlt⟩
      obtain ⟨b, o, rfl, d0, d1⟩ := HE.out k _ hp
      dsimp only at d0 d1
      have HP := Nu.hid hp
      clear hp
      have next : (((k : Int) ≠ x) → p1 ≠ v ∧ p2 ≠ v) → ∀ (i : Nat) (p : Int × Int), i < k + 1 → es[i]? = some p → (i : Int) ≠ x → p.1 ≠ v ∧ p.2 ≠ v := fun h i p hi hp hx => by
        by_cases e : i = k
        · subst e
          rw [HP.out] at hp
          cases hp
          exact h hx
        · exact HNO.out i p (by omega) hp hx
      have HNX := Nu.hid next
      clear next
      by_cases hx : (k : Int) = x
      · have t1 : ((k : Int) != x) = false := by simp [hx]
        have HG := Nu.hid (HNX.out (fun h => absurd hx h))
        clear hx
        go_wp2
        go_roundw
        case rel => exact ⟨k + 1, by omega, by go_num, HG.out, by first | rfl | trivial⟩
        case measure => simp [intOf]; omega
      · have t1 : ((k : Int) != x) = true := by simp [hx]
        have HX := Nu.hid hx
        clear hx
        by_cases h1 : p1 = v
        · have t2 : (p1 == v) = true := by simp [h1]
          have HF : Hid (Ku.IsOn es v x (k : Int)) := .inr ⟨k, _, rfl, HP.out, HX.out, .inl h1⟩
          clear h1
          go_wp2
          go_ret
          exact ⟨_, rfl, HF.out, HB.out⟩
        · have t2 : (p1 == v) = false := by simp [h1]
          by_cases h2 : p2 = v
          · have t3 : (p2 == v) = true := by simp [h2]
            have HF : Hid (Ku.IsOn es v x (k : Int)) := .inr ⟨k, _, rfl, HP.out, HX.out, .inr h2⟩
            clear h1 h2
            go_wp2
            go_ret
            exact ⟨_, rfl, HF.out, HB.out⟩
          · have t3 : (p2 == v) = false := by simp [h2]
            have HG := Nu.hid (HNX.out (fun _ => ⟨h1, h2⟩))
            clear h1 h2
            go_wp2
            go_roundw
            case rel => exact ⟨k + 1, by omega, by go_num, HG.out, by first | rfl | trivial⟩
            case measure => simp [intOf]; omega
    · have hd : ¬ ((k : Int) < (es.length : Int)) := by omega
      have HF : Hid (Ku.IsOn es v x (-1)) := .inl ⟨rfl, fun i p hp => HNO.out i p (by have := (List.getElem?_eq_some_iff.1 hp).1; omega) hp⟩
      go_wp2
      go_ret
      exact ⟨_, rfl, HF.out, HB.out⟩

theorem Ku.rev_drop {l : List Int} {k : Nat} {x : Int} (h : l[k]? = some x) : (l.drop (k + 1)).reverse ++ [x] = (l.drop k).reverse := by
  obtain ⟨hk, e⟩ := List.getElem?_eq_some_iff.1 h
  rw [List.drop_eq_getElem_cons hk, List.reverse_cons, e]

set_option maxRecDepth 100000 in
set_option maxHeartbeats 4000000 in
theorem kturned_any (ao : Option Addr) (q c : Nat) (l : List Int) (w : World) (hq : l.length = q) (h : IntsAt w ao l) (hl : q ≤ 17592186044000) :
    Calls Try.prog 48 #[.slice ao q c] w fun e w' => ∃ v, e = .returned v ∧ OwnZ w' w.heap.size v l.reverse ∧ Below w.heap.size w w' := by
  have HL := Nu.hid h
  have HQ := Nu.hid hq
  have hw0 : IntKind.i64.wrap ((q : Int) - 1) = (q : Int) - 1 := by rw [IntKind.wrap_i64]; omega
  clear h hq
  go_enter Try.func48, Try.ntmps48
  go_wp2
  go_loopw [3, 4] (fun v cv wr => ∃ (j : Nat) (x : Int), j ≤ q ∧ cv = .int .i64 x ∧ x = (j : Int) - 1 ∧ OwnZ wr w.heap.size v (l.drop j).reverse ∧ Below w.heap.size w wr) (fun _ cv _ => ((intOf cv) + 1).toNat)
  case atStart => exact ⟨q, _, Nat.le_refl _, rfl, rfl, by rw [List.drop_of_length_le (by rw [HQ.out]; exact Nat.le_refl _)]; exact OwnZ.nil _ _, Below.refl _ _⟩
  case round =>
    obtain ⟨j, x, hj, rfl, hx, hown, hb⟩ := hrel
    have HOWN := Nu.hid hown
    have HB := Nu.hid hb
    have hs0 := hb.size
    cases j with
    | zero =>
      obtain rfl : x = -1 := by simpa using hx
      have HF : Hid (l.drop 0 = l) := rfl
      clear hown hb hx
      go_wp2
      go_ret
      exact ⟨_, rfl, by simpa using HOWN.out, HB.out⟩
    | succ k =>
      obtain rfl : x = (k : Int) := by omega
      have hk0 : (0 : Int) ≤ (k : Int) := by omega
      have hk1 : (k : Int) < (q : Int) := by omega
      have hwk : IntKind.i64.wrap ((k : Int) - 1) = (k : Int) - 1 := by rw [IntKind.wrap_i64]; omega
      obtain ⟨y, hy⟩ : ∃ y, l[k]? = some y := ⟨_, List.getElem?_eq_getElem (by rw [HQ.out]; omega)⟩
      obtain ⟨b, o, rfl, d0⟩ := (HL.out.later hb) k y hy
      have HRD := Nu.hid (Ku.rev_drop hy)
      have hll : ((l.drop (k + 1)).reverse).length ≤ 17592186044000 := by rw [List.length_reverse, List.length_drop, HQ.out]; omega
      clear hown hb hx hy
      go_wp2_with (at_builtin; refine wpList_push rfl _ _ rfl _ w.heap.size _ _ y HOWN.out hs0 hll rfl rfl ?_; refine Hid.out ?_)
      refine Nu.hid ?_
      intro v' w3 hrow3 _ _ hb3
      have HROW3 := Nu.hid hrow3
      have HB3 := Nu.hid (HB.out.trans hb3)
      clear hrow3 hb3
      go_wp2
      go_roundw
      case rel => exact ⟨k, _, by omega, rfl, rfl, by rw [← HRD.out]; exact HROW3.out, HB3.out⟩
      case measure => simp [intOf]

set_option maxRecDepth 100000 in
set_option maxHeartbeats 4000000 in
theorem kleast_any (ao : Option Addr) (q c : Nat) (l : List Int) (w : World) (hq : l.length = q) (h : IntsAt w ao l) (h0 : 0 < q) (hl : q ≤ 17592186044000) :
    Calls Try.prog 63 #[.slice ao q c] w fun e w' => ∃ k : Nat, e = .returned (.int .i64 (k : Int)) ∧ k < q ∧ (∀ (i : Nat), i < q → l.getD k 0 ≤ l.getD i 0) ∧ Below w.heap.size w w' := by
  have HL := Nu.hid h
  have HQ := Nu.hid hq
  clear h hq
  go_enter Try.func63, Try.ntmps63
  go_wp2
  go_loopw [3, 4] (fun v cv wr => ∃ (a k : Nat), k ≤ q ∧ a < k ∧ v = .int .i64 (a : Int) ∧ cv = .int .i64 (k : Int) ∧ (∀ (i : Nat), i < k → l.getD a 0 ≤ l.getD i 0) ∧ Below w.heap.size w wr) (fun _ cv _ => q - (intOf cv).toNat)
  case atStart =>
    refine ⟨0, 1, by omega, by omega, rfl, rfl, fun i hi => ?_, Below.refl _ _⟩
    obtain rfl : i = 0 := by omega
    exact Int.le_refl _
  case round =>
    obtain ⟨a, k, hk, hak, rfl, rfl, hmin, hb⟩ := hrel
    obtain ⟨w1, rfl⟩ : ∃ w1, w1 = wr := ⟨wr, rfl⟩
    have HMIN := Nu.hid hmin
    have HB := Nu.hid hb
    have hwk : IntKind.i64.wrap ((k : Int) + 1) = (k : Int) + 1 := by rw [IntKind.wrap_i64]; omega
    by_cases hlt : k < q
    · have hlti : (k : Int) < (q : Int) := by omega
      have hk0 : (0 : Int) ≤ (k : Int) := by omega
      have ha0 : (0 : Int) ≤ (a : Int) := by omega
      have ha1 : (a : Int) < (q : Int) := by omega
      obtain ⟨y, hy⟩ : ∃ y, l[k]? = some y := ⟨_, List.getElem?_eq_getElem (by rw [HQ.out]; omega)⟩
      obtain ⟨z, hz⟩ : ∃ z, l[a]? = some z := ⟨_, List.getElem?_eq_getElem (by rw [HQ.out]; omega)⟩
      obtain ⟨b, o, rfl, e0⟩ := (HL.out.later hb) k y hy
      obtain ⟨b', o', e, e1⟩ := (HL.out.later hb) a z hz
      cases e
      have gy : l.getD k 0 = y := by rw [List.getD_eq_getElem?_getD, hy]; rfl
      have gz : l.getD a 0 = z := by rw [List.getD_eq_getElem?_getD, hz]; rfl
      have d0 : ∀ D : LW w1, D.val.cell? ⟨b, o + k, none⟩ = some (.int .i64 y) := fun D => (D.h.cell (p := ⟨b, o + k, none⟩) (block_lt_of_cell e0)).trans e0
      have d1 : ∀ D : LW w1, D.val.cell? ⟨b, o + a, none⟩ = some (.int .i64 z) := fun D => (D.h.cell (p := ⟨b, o + a, none⟩) (block_lt_of_cell e1)).trans e1
      have HGY := Nu.hid gy
      have HGZ := Nu.hid gz
      have hne := LW.any w1
      clear hmin hb hy hz gy gz e0 e1
      by_cases hyz : y < z
      · have HN : Hid (∀ (i : Nat), i < k + 1 → l.getD k 0 ≤ l.getD i 0) := fun i hi => by
          by_cases e : i = k
          · rw [e]; exact Int.le_refl _
          · have := HMIN.out i (by omega)
            rw [HGZ.out] at this
            rw [HGY.out]
            omega
        go_wp2_with fail
        refine wp_region_lw (by kernel_rfl) (by kernel_rfl) ?_
        repeat (go_big_quiet_step (fail))
        refine wpQuiet_nil ?_
        rintro _ ⟨E, rfl⟩
        have HBE := Nu.hid (HB.out.trans (E.h.mono HB.out.size))
        obtain ⟨WE, hWE⟩ : ∃ WE, WE = E.val := ⟨_, rfl⟩
        rw [← hWE] at HBE ⊢
        clear d0 d1 hne hWE
        go_wp2
        go_roundw
        case rel => exact ⟨k, k + 1, by omega, by omega, rfl, by go_num, HN.out, HBE.out⟩
        case measure => simp [intOf]; omega
      · have HN : Hid (∀ (i : Nat), i < k + 1 → l.getD a 0 ≤ l.getD i 0) := fun i hi => by
          by_cases e : i = k
          · rw [e, HGY.out, HGZ.out]; omega
          · exact HMIN.out i (by omega)
        go_wp2_with fail
        refine wp_region_lw (by kernel_rfl) (by kernel_rfl) ?_
        repeat (go_big_quiet_step (fail))
        refine wpQuiet_nil ?_
        rintro _ ⟨E, rfl⟩
        have HBE := Nu.hid (HB.out.trans (E.h.mono HB.out.size))
        obtain ⟨WE, hWE⟩ : ∃ WE, WE = E.val := ⟨_, rfl⟩
        rw [← hWE] at HBE ⊢
        clear d0 d1 hne hWE
        go_wp2
        go_roundw
        case rel => exact ⟨a, k + 1, by omega, by omega, rfl, by go_num, HN.out, HBE.out⟩
        case measure => simp [intOf]; omega
    · have hd : ¬ ((k : Int) < (q : Int)) := by omega
      obtain rfl : k = q := by omega
      clear hmin hb
      go_wp2
      go_ret
      exact ⟨a, rfl, hak, HMIN.out, HB.out⟩

end Go.Proofs.Ytdhaaodalchpkaa
