/-
  What gather answers where the scan goes right: the tokens, in new memory.
-/
import Derived.Test.YtmgjfakdjponoabDoorCount
namespace Go.Proofs.YtmgjfakdjponoabDoor
open Go.RowKit

theorem Tryd.infoTok : (Tryd.prog.info? 113).map (fun i => (i.zero, i.size, i.bytes)) = some (some (.agg #[.int .i64 0, .int .i64 0, .int .i64 0, .int .i64 0]), 4, 32) := by kernel_rfl

/-- The cells of arr hold the tokens us, one behind the other. -/
def TokCells (arr : Array Value) (us : List Nu.Tok) : Prop :=
  ∀ j t, us[j]? = some t → arr[j * 4]? = some (.int .i64 t.kind) ∧ arr[j * 4 + 1]? = some (.int .i64 t.at') ∧ arr[j * 4 + 2]? = some (.int .i64 t.fin) ∧ arr[j * 4 + 3]? = some (.int .i64 t.num)

/-- Block T is a row of m tokens, the first of which are us. -/
def RowToks (W : World) (T m : Nat) (us : List Nu.Tok) : Prop :=
  ∃ arr, W.heap[T]? = some (.cells arr 113 (0, 0)) ∧ arr.size = m * 4 ∧ TokCells arr us

/-- Four stores into block B from place o on. -/
def put4at (w : World) (B o : Nat) (a b c d : Value) : World := (((w.setCell ⟨B, o, none⟩ a).setCell ⟨B, o + 1, none⟩ b).setCell ⟨B, o + 2, none⟩ c).setCell ⟨B, o + 3, none⟩ d

theorem put4at_other {w : World} {B k : Nat} (hk : k ≠ B) (o : Nat) (a b c d : Value) : (put4at w B o a b c d).heap[k]? = w.heap[k]? := by
  unfold put4at
  rw [heap_setCell_other _ ⟨B, o + 3, none⟩ k d hk, heap_setCell_other _ ⟨B, o + 2, none⟩ k c hk, heap_setCell_other _ ⟨B, o + 1, none⟩ k b hk, heap_setCell_other _ ⟨B, o, none⟩ k a hk]

theorem put4at_size (w : World) (B o : Nat) (a b c d : Value) : (put4at w B o a b c d).heap.size = w.heap.size := by simp [put4at]

theorem put4at_heap {w : World} {B : Nat} {t : TypeId} {arr : Array Value} (h : w.heap[B]? = some (.cells arr t (0, 0))) (o : Nat) (a b c d : Value) :
    (put4at w B o a b c d).heap[B]? = some (.cells ((((arr.setIfInBounds o a).setIfInBounds (o + 1) b).setIfInBounds (o + 2) c).setIfInBounds (o + 3) d) t (0, 0)) := by
  have h1 := heap_setCell_same w B o _ t a h
  have h2 := heap_setCell_same _ B (o + 1) _ t b h1
  have h3 := heap_setCell_same _ B (o + 2) _ t c h2
  exact heap_setCell_same _ B (o + 3) _ t d h3

theorem RowToks.push {w : World} {T m : Nat} {arr : Array Value} {us : List Nu.Tok} (har : w.heap[T]? = some (.cells arr 113 (0, 0))) (hsz : arr.size = m * 4) (hac : TokCells arr us) (hlt : us.length < m) (t : Nu.Tok) :
    RowToks (put4at w T (us.length * 4) (.int .i64 t.kind) (.int .i64 t.at') (.int .i64 t.fin) (.int .i64 t.num)) T m (us ++ [t]) := by
  refine ⟨_, put4at_heap har _ _ _ _ _, by simpa using hsz, fun j u hj => ?_⟩
  by_cases hlt' : j < us.length
  · rw [List.getElem?_append_left hlt'] at hj
    obtain ⟨h0, h1, h2, h3⟩ := hac j u hj
    refine ⟨?_, ?_, ?_, ?_⟩
    all_goals
      rw [Array.getElem?_setIfInBounds_ne (by omega), Array.getElem?_setIfInBounds_ne (by omega), Array.getElem?_setIfInBounds_ne (by omega), Array.getElem?_setIfInBounds_ne (by omega)]
      assumption
  · have hj' : j = us.length := by
      have h := (List.getElem?_eq_some_iff.1 hj).1
      simp at h
      omega
    subst hj'
    simp at hj
    subst hj
    refine ⟨?_, ?_, ?_, ?_⟩
    · rw [Array.getElem?_setIfInBounds_ne (by omega), Array.getElem?_setIfInBounds_ne (by omega), Array.getElem?_setIfInBounds_ne (by omega), Array.getElem?_setIfInBounds_self_of_lt (by omega)]
    · rw [Array.getElem?_setIfInBounds_ne (by omega), Array.getElem?_setIfInBounds_ne (by omega), Array.getElem?_setIfInBounds_self_of_lt (by simp; omega)]
    · rw [Array.getElem?_setIfInBounds_ne (by omega), Array.getElem?_setIfInBounds_self_of_lt (by simp; omega)]
    · rw [Array.getElem?_setIfInBounds_self_of_lt (by simp; omega)]

theorem grownBy_put4at {w0 w : World} {r : Option Nat} (h : w0.grownBy w r) {B : Nat} (hB : w0.heap.size ≤ B) (o : Nat) (x0 x1 x2 x3 : Value) : w0.grownBy (put4at w B o x0 x1 x2 x3) r :=
  ⟨h.os, h.tape, h.output, by rw [put4at_size]; exact h.size, fun k hk hne => (put4at_other (by omega) o x0 x1 x2 x3).trans (h.block k hk hne)⟩

set_option maxHeartbeats 2000000 in
theorem gather_any (ao : Option Addr) (n cap : Nat) (g : Nat → Int) (ts : List Nu.Tok) (w : World) (ht : HasText w ao n g) (ha : Apart ao w.heap.size) (hn : n ≤ 33554432) (hcap : n ≤ cap) (hscan : Nu.scan g n = .ok ts) :
    Calls Tryd.prog 60 #[.slice ao n cap, .int .i64 ts.length] w fun e w' =>
      ∃ T, e = .returned (.slice (some ⟨T, 0, none⟩) ts.length ts.length) ∧ w.heap.size ≤ T ∧ RowToks w' T ts.length ts ∧ w.grownBy w' none := by
  have hlen := Nu.scan_length hscan
  obtain ⟨i0, hi, hz0, hz1, hz2⟩ := info_parts Tryd.infoTok
  have HSC := Nu.hid hscan
  have HT := Nu.hid ht
  clear hscan ht
  go_enter Tryd.func60, Tryd.ntmps60
  go_wp2_with (at_make; refine wpList_make_full _ rfl _ _ 88 rfl w.heap.size 113 i0 (.agg #[.int .i64 0, .int .i64 0, .int .i64 0, .int .i64 0]) 4 Tryd.underlying88 hi hz0 hz1 .i64 .i64 _ _ ts.length rfl rfl rfl rfl (by rw [hz2]; omega) (by unfold maxLen; omega) (by simp) ?_; intro w1 hown hgrow; refine Hid.out ?_)
  refine Nu.hid ?_
  have hT : (w.alloc (.cells #[.slice ao n cap, .int .i64 0] 128)).heap.size = w.heap.size + 1 := by simp
  rw [hT] at hown
  have hrow : RowToks w1 (w.heap.size + 1) ts.length [] := by
    rcases hown.2 with ⟨h, _⟩ | ⟨gb, c, cur, e, _, hh, _, _, hsz, _⟩
    · cases h
    · cases e
      exact ⟨cur, hh, hsz, fun j t h => by simp at h⟩
  have hs1 : Scn w1 w.heap.size ao n cap 0 := Scn.kept (r := none) (heap_alloc_new w _) hgrow (by simp)
  have hg1 : w.grownBy w1 none := grownBy_trans (World.grownBy_alloc w _ none) hgrow
  have HG1 := Nu.hid hg1
  have HS1 := Nu.hid hs1
  have HR := Nu.hid hrow
  clear hg1 hs1 hrow hown hgrow hT
  go_wp2
  go_loopw [14] (fun c wr => ∃ (us vs : List Nu.Tok) (p k : Nat), ts = us ++ vs ∧ p ≤ n ∧ Nu.scanF g n k p = .ok vs ∧ c = .int .i64 us.length ∧ Scn wr w.heap.size ao n cap p ∧ RowToks wr (w.heap.size + 1) ts.length us ∧ w.grownBy wr none) (fun c _ => ts.length - (intOf c).toNat)
  case atStart => exact ⟨[], ts, 0, n + 1, rfl, Nat.zero_le _, HSC.out, rfl, HS1.out, HR.out, HG1.out⟩
  case round =>
    obtain ⟨us, vs, p, k, hts, hp, hsf, rfl, hs, hr, hg⟩ := hrel
    have hl : ts.length = us.length + vs.length := by rw [hts]; simp
    cases vs with
    | nil =>
      have hd : ¬ ((us.length : Int) < (ts.length : Int)) := by simp at hl; omega
      have HTS := Nu.hid hts
      clear hts hl hsf
      go_wp2
      go_ret
      have e := HTS.out
      rw [List.append_nil] at e
      subst e
      exact ⟨_, rfl, by omega, hr, hg⟩
    | cons t vs =>
      have hlt : (us.length : Int) < (ts.length : Int) := by simp at hl; omega
      have hle : us.length < ts.length := by simp at hl; omega
      obtain ⟨p', hnx, hp', k', hsf'⟩ := Nu.scanF_cons hp hsf
      have HTS := Nu.hid hts
      have HNX := Nu.hid hnx
      have HSF := Nu.hid hsf'
      have HRW := Nu.hid hr
      have HG := Nu.hid hg
      clear hts hl hsf hnx hsf' hr hg
      go_wp2_with (go_at_call 74; refine (next_any w.heap.size ao n cap p g _ hs (HT.out.grown0 HG.out) ha hp hn hcap).mono ?_; refine Hid.out ?_)
      refine Nu.hid ?_
      rintro e w2 ⟨hg2, hx⟩
      rcases hx with ⟨t2, p2, hnx2, rfl, hs2⟩ | ⟨x, hnx2, rfl⟩
      · rw [HNX.out] at hnx2
        cases hnx2
        obtain ⟨arr, har, hasz, hac⟩ := HRW.out
        have har2 : w2.heap[w.heap.size + 1]? = some (.cells arr 113 (0, 0)) := (hg2.block _ (lt_of_block har) (by simp)).trans har
        have HG2 := Nu.hid (grownBy_new HG.out (Nat.le_refl _) hg2)
        have HS2 := Nu.hid hs2
        have HAR := Nu.hid har2
        have HAC := Nu.hid hac
        have f0 : ∀ i, w2.frozen? ⟨w.heap.size + 1, i, none⟩ = false := fun i => by simp [World.frozen?, har2]
        have hc : ∀ i, i < ts.length * 4 → ∃ v, w2.cell? ⟨w.heap.size + 1, i, none⟩ = some v := fun i hi => ⟨arr[i]'(by omega), by rw [cell_of_row w2 _ i arr _ _ har2]; simp⟩
        obtain ⟨v0, c0⟩ := hc (us.length * 4) (by omega)
        obtain ⟨v1, c1⟩ := hc (us.length * 4 + 1) (by omega)
        obtain ⟨v2, c2⟩ := hc (us.length * 4 + 2) (by omega)
        obtain ⟨v3, c3⟩ := hc (us.length * 4 + 3) (by omega)
        clear hg2 hs2 har2 hac hc har hs
        unfold tokV
        go_wp2
        go_roundw
        case rel =>
          refine ⟨us ++ [t], vs, p', k', by rw [HTS.out]; simp, hp', HSF.out, by simp, ?_, ?_, ?_⟩
          · exact (put4at_other (w := w2) (by omega) (us.length * 4) _ _ _ _).trans HS2.out
          · exact RowToks.push HAR.out hasz HAC.out hle t
          · exact grownBy_put4at HG2.out (by omega) (us.length * 4) _ _ _ _
        case measure => simp [intOf]; omega
      · rw [HNX.out] at hnx2
        cases hnx2

end Go.Proofs.YtmgjfakdjponoabDoor
