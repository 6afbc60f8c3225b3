import Derived.Test.YtfjgmbimapkabaaDoorMg06
import Derived.Defers
import Derived.Recover
/-
  What count answers: how many tokens the text has, or it gives up with the first fault.
-/
namespace Go.Proofs.YtfjgmbimapkabaaDoor
open Go.RowKit

def CountPost (n : Nat) (g : Nat → Int) (w : World) (e : Ending) (w' : World) : Prop :=
  w.grownBy w' none ∧ ((∃ ts, Nu.scan g n = .ok ts ∧ e = .returned (.int .i64 ts.length)) ∨ (∃ x, Nu.scan g n = .error x ∧ e = .panicked [{ v := faultV x, recovered := false }]))

/-- Writes to a block that was not there are no writes to what was. -/
theorem grownBy_new {w w1 w2 : World} {b : Nat} (h : w.grownBy w1 none) (hb : w.heap.size ≤ b) (k : w1.grownBy w2 (some b)) : w.grownBy w2 none :=
  ⟨k.os.trans h.os, k.tape.trans h.tape, k.output.trans h.output, Nat.le_trans h.size k.size, fun i hi _ => (k.block i (Nat.lt_of_lt_of_le hi h.size) (by simp; omega)).trans (h.block i hi (by simp))⟩

theorem HasText.apart {w : World} {ao : Option Addr} {n : Nat} {g : Nat → Int} (h : HasText w ao n g) (hn : 0 < n) : Apart ao w.heap.size := by
  intro x hx
  obtain ⟨_, tb, to, e, hc⟩ := h 0 hn
  rw [hx] at e
  cases e
  have := block_lt_of_cell hc
  simp at this ⊢
  omega

set_option maxHeartbeats 2000000 in
theorem count_any (ao : Option Addr) (n cap : Nat) (g : Nat → Int) (w : World) (ht : HasText w ao n g) (ha : Apart ao w.heap.size) (hn : n ≤ 33554432) (hcap : n ≤ cap) :
    Calls Tryd.prog 55 #[.slice ao n cap] w (CountPost n g w) := by
  have hft := field_tok
  go_enter Tryd.func55, Tryd.ntmps55
  go_wp2
  go_loopw [4] (fun c wr => ∃ (ts : List Nu.Tok) (p k : Nat), p ≤ n ∧ n - p < k ∧ ts.length ≤ p ∧ Nu.scan g n = Nu.pre ts (Nu.scanF g n k p) ∧ c = .int .i64 (ts.length + 1 : Nat) ∧ Scn wr w.heap.size ao n cap p ∧ w.grownBy wr none) (fun _ wr => n - posOf wr w.heap.size)
  case atStart =>
    refine ⟨[], 0, n + 1, Nat.zero_le _, by omega, Nat.le_refl _, (Nu.pre_nil _).symm, rfl, ?_, World.grownBy_alloc _ _ _⟩
    exact heap_alloc_new w _
  case round =>
    obtain ⟨ts, p, k, hp, hk, hl, hscan, rfl, hs, hg⟩ := hrel
    obtain ⟨k, rfl⟩ : ∃ k', k = k' + 1 := ⟨k - 1, by omega⟩
    have HSC := Nu.hid hscan
    have HT := Nu.hid ht
    have HPOS := Nu.hid hs.pos
    clear hscan ht
    go_wp2_with (go_at_call 60; refine (next_any w.heap.size ao n cap p g _ hs (HT.out.grown0 hg) ha hp hn hcap).mono ?_; refine Hid.out ?_)
    refine Nu.hid ?_
    rintro e w1 ⟨hg1, hx⟩
    have HG := Nu.hid (grownBy_new hg (Nat.le_refl _) hg1)
    rcases hx with ⟨t, p', hnx, rfl, hs1⟩ | ⟨x, hnx, rfl⟩
    · have hm := Nu.next_moves hp hnx
      have hf := Nu.next_fits hp hnx
      have HS1 := Nu.hid hs1
      have HNX := Nu.hid hnx
      clear hnx hs1 hg hg1 hs
      unfold tokV
      by_cases h3 : t.kind = 3
      · have j3 : (t.kind != 3) = false := by simp [h3]
        have H3 := Nu.hid h3
        clear h3
        go_wp2
        go_ret
        refine ⟨HG.out, .inl ⟨ts ++ [t], ?_, by simp⟩⟩
        rw [HSC.out, Nu.scanF_last k HNX.out H3.out]
        rfl
      · have j3 : (t.kind != 3) = true := by simp [h3]
        have hp' := hm.2 h3
        have H3 := Nu.hid h3
        clear h3
        go_wp2
        go_roundw
        case rel =>
          refine ⟨ts ++ [t], p', k, hm.1, by omega, by simp; omega, ?_, by simp, HS1.out, HG.out⟩
          rw [HSC.out, Nu.scanF_more k HNX.out H3.out, Nu.pre_pre]
        case measure =>
          have e1 := HS1.out.pos
          have e2 : posOf wr w.heap.size = p := HPOS.out
          rw [e1, e2]
          omega
    · refine ⟨rfl, HG.out, .inr ⟨x, ?_, rfl⟩⟩
      rw [HSC.out, Nu.scanF_fault k hnx]
      rfl

end Go.Proofs.YtfjgmbimapkabaaDoor
/-
  What gather answers where the scan goes right: the tokens, in new memory.
-/
namespace Go.Proofs.YtfjgmbimapkabaaDoor
open Go.RowKit

theorem Tryd.infoTok : (Tryd.prog.info? 108).map (fun i => (i.zero, i.size, i.bytes)) = some (some (.agg #[.int .i64 0, .int .i64 0, .int .i64 0, .int .i64 0]), 4, 32) := by kernel_rfl

/-- The cells of arr hold the tokens us, one behind the other. -/
def TokCells (arr : Array Value) (us : List Nu.Tok) : Prop :=
  ∀ j t, us[j]? = some t → arr[j * 4]? = some (.int .i64 t.kind) ∧ arr[j * 4 + 1]? = some (.int .i64 t.at') ∧ arr[j * 4 + 2]? = some (.int .i64 t.fin) ∧ arr[j * 4 + 3]? = some (.int .i64 t.num)

/-- Block T is a row of m tokens, the first of which are us. -/
def RowToks (W : World) (T m : Nat) (us : List Nu.Tok) : Prop :=
  ∃ arr, W.heap[T]? = some (.cells arr 108 (0, 0)) ∧ arr.size = m * 4 ∧ TokCells arr us

/-- Four stores into block B from place o on. -/
def put4at (w : World) (B o : Nat) (a b c d : Value) : World := (((w.setCell ⟨B, o, none⟩ a).setCell ⟨B, o + 1, none⟩ b).setCell ⟨B, o + 2, none⟩ c).setCell ⟨B, o + 3, none⟩ d

theorem put4at_other {w : World} {B k : Nat} (hk : k ≠ B) (o : Nat) (a b c d : Value) : (put4at w B o a b c d).heap[k]? = w.heap[k]? := by
  unfold put4at
  rw [heap_setCell_other _ ⟨B, o + 3, none⟩ k d hk, heap_setCell_other _ ⟨B, o + 2, none⟩ k c hk, heap_setCell_other _ ⟨B, o + 1, none⟩ k b hk, heap_setCell_other _ ⟨B, o, none⟩ k a hk]

theorem put4at_size (w : World) (B o : Nat) (a b c d : Value) : (put4at w B o a b c d).heap.size = w.heap.size := by simp [put4at]

theorem put4at_heap {w : World} {B : Nat} {t : TypeId} {arr : Array Value} (h : w.heap[B]? = some (.cells arr t (0, 0))) (o : Nat) (a b c d : Value) :
    (put4at w B o a b c d).heap[B]? = some (.cells ((((arr.setIfInBounds o a).setIfInBounds (o + 1) b).setIfInBounds (o + 2) c).setIfInBounds (o + 3) d) t (0, 0)) := by
  have h1 := heap_setCell_same w B o _ t a h
  have h2 := heap_setCell_same _ B (o + 1) _ t b h1
  have h3 := heap_setCell_same _ B (o + 2) _ t c h2
  exact heap_setCell_same _ B (o + 3) _ t d h3

theorem RowToks.push {w : World} {T m : Nat} {arr : Array Value} {us : List Nu.Tok} (har : w.heap[T]? = some (.cells arr 108 (0, 0))) (hsz : arr.size = m * 4) (hac : TokCells arr us) (hlt : us.length < m) (t : Nu.Tok) :
    RowToks (put4at w T (us.length * 4) (.int .i64 t.kind) (.int .i64 t.at') (.int .i64 t.fin) (.int .i64 t.num)) T m (us ++ [t]) := by
  refine ⟨_, put4at_heap har _ _ _ _ _, by simpa using hsz, fun j u hj => ?_⟩
  by_cases hlt' : j < us.length
  · rw [List.getElem?_append_left hlt'] at hj
    obtain ⟨h0, h1, h2, h3⟩ := hac j u hj
    refine ⟨?_, ?_, ?_, ?_⟩
    all_goals
      rw [Array.getElem?_setIfInBounds_ne (by omega), Array.getElem?_setIfInBounds_ne (by omega), Array.getElem?_setIfInBounds_ne (by omega), Array.getElem?_setIfInBounds_ne (by omega)]
      assumption
  · have hj' : j = us.length := by
      have h := (List.getElem?_eq_some_iff.1 hj).1
      simp at h
      omega
    subst hj'
    simp at hj
    subst hj
    refine ⟨?_, ?_, ?_, ?_⟩
    · rw [Array.getElem?_setIfInBounds_ne (by omega), Array.getElem?_setIfInBounds_ne (by omega), Array.getElem?_setIfInBounds_ne (by omega), Array.getElem?_setIfInBounds_self_of_lt (by omega)]
    · rw [Array.getElem?_setIfInBounds_ne (by omega), Array.getElem?_setIfInBounds_ne (by omega), Array.getElem?_setIfInBounds_self_of_lt (by simp; omega)]
    · rw [Array.getElem?_setIfInBounds_ne (by omega), Array.getElem?_setIfInBounds_self_of_lt (by simp; omega)]
    · rw [Array.getElem?_setIfInBounds_self_of_lt (by simp; omega)]

theorem grownBy_put4at {w0 w : World} {r : Option Nat} (h : w0.grownBy w r) {B : Nat} (hB : w0.heap.size ≤ B) (o : Nat) (x0 x1 x2 x3 : Value) : w0.grownBy (put4at w B o x0 x1 x2 x3) r :=
  ⟨h.os, h.tape, h.output, by rw [put4at_size]; exact h.size, fun k hk hne => (put4at_other (by omega) o x0 x1 x2 x3).trans (h.block k hk hne)⟩

set_option maxHeartbeats 2000000 in
theorem gather_any (ao : Option Addr) (n cap : Nat) (g : Nat → Int) (ts : List Nu.Tok) (w : World) (ht : HasText w ao n g) (ha : Apart ao w.heap.size) (hn : n ≤ 33554432) (hcap : n ≤ cap) (hscan : Nu.scan g n = .ok ts) :
    Calls Tryd.prog 54 #[.slice ao n cap, .int .i64 ts.length] w fun e w' =>
      ∃ T, e = .returned (.slice (some ⟨T, 0, none⟩) ts.length ts.length) ∧ w.heap.size ≤ T ∧ RowToks w' T ts.length ts ∧ w.grownBy w' none := by
  have hlen := Nu.scan_length hscan
  obtain ⟨i0, hi, hz0, hz1, hz2⟩ := info_parts Tryd.infoTok
  have HSC := Nu.hid hscan
  have HT := Nu.hid ht
  clear hscan ht
  go_enter Tryd.func54, Tryd.ntmps54
  go_wp2_with (at_make; refine wpList_make_full _ rfl _ _ 103 rfl w.heap.size 108 i0 (.agg #[.int .i64 0, .int .i64 0, .int .i64 0, .int .i64 0]) 4 Tryd.underlying103 hi hz0 hz1 .i64 .i64 _ _ ts.length rfl rfl rfl rfl (by rw [hz2]; omega) (by unfold maxLen; omega) (by simp) ?_; intro w1 hown hgrow; refine Hid.out ?_)
  refine Nu.hid ?_
  have hT : (w.alloc (.cells #[.slice ao n cap, .int .i64 0] 121)).heap.size = w.heap.size + 1 := by simp
  rw [hT] at hown
  have hrow : RowToks w1 (w.heap.size + 1) ts.length [] := by
    rcases hown.2 with ⟨h, _⟩ | ⟨gb, c, cur, e, _, hh, _, _, hsz, _⟩
    · cases h
    · cases e
      exact ⟨cur, hh, hsz, fun j t h => by simp at h⟩
  have hs1 : Scn w1 w.heap.size ao n cap 0 := Scn.kept (r := none) (heap_alloc_new w _) hgrow (by simp)
  have hg1 : w.grownBy w1 none := grownBy_trans (World.grownBy_alloc w _ none) hgrow
  have HG1 := Nu.hid hg1
  have HS1 := Nu.hid hs1
  have HR := Nu.hid hrow
  clear hg1 hs1 hrow hown hgrow hT
  go_wp2
  go_loopw [14] (fun c wr => ∃ (us vs : List Nu.Tok) (p k : Nat), ts = us ++ vs ∧ p ≤ n ∧ Nu.scanF g n k p = .ok vs ∧ c = .int .i64 us.length ∧ Scn wr w.heap.size ao n cap p ∧ RowToks wr (w.heap.size + 1) ts.length us ∧ w.grownBy wr none) (fun c _ => ts.length - (intOf c).toNat)
  case atStart => exact ⟨[], ts, 0, n + 1, rfl, Nat.zero_le _, HSC.out, rfl, HS1.out, HR.out, HG1.out⟩
  case round =>
    obtain ⟨us, vs, p, k, hts, hp, hsf, rfl, hs, hr, hg⟩ := hrel
    have hl : ts.length = us.length + vs.length := by rw [hts]; simp
    cases vs with
    | nil =>
      have hd : ¬ ((us.length : Int) < (ts.length : Int)) := by simp at hl; omega
      have HTS := Nu.hid hts
      clear hts hl hsf
      go_wp2
      go_ret
      have e := HTS.out
      rw [List.append_nil] at e
      subst e
      exact ⟨_, rfl, by omega, hr, hg⟩
    | cons t vs =>
      have hlt : (us.length : Int) < (ts.length : Int) := by simp at hl; omega
      have hle : us.length < ts.length := by simp at hl; omega
      obtain ⟨p', hnx, hp', k', hsf'⟩ := Nu.scanF_cons hp hsf
      have HTS := Nu.hid hts
      have HNX := Nu.hid hnx
      have HSF := Nu.hid hsf'
      have HRW := Nu.hid hr
      have HG := Nu.hid hg
      clear hts hl hsf hnx hsf' hr hg
      go_wp2_with (go_at_call 60; refine (next_any w.heap.size ao n cap p g _ hs (HT.out.grown0 HG.out) ha hp hn hcap).mono ?_; refine Hid.out ?_)
      refine Nu.hid ?_
      rintro e w2 ⟨hg2, hx⟩
      rcases hx with ⟨t2, p2, hnx2, rfl, hs2⟩ | ⟨x, hnx2, rfl⟩
      · rw [HNX.out] at hnx2
        cases hnx2
        obtain ⟨arr, har, hasz, hac⟩ := HRW.out
        have har2 : w2.heap[w.heap.size + 1]? = some (.cells arr 108 (0, 0)) := (hg2.block _ (lt_of_block har) (by simp)).trans har
        have HG2 := Nu.hid (grownBy_new HG.out (Nat.le_refl _) hg2)
        have HS2 := Nu.hid hs2
        have HAR := Nu.hid har2
        have HAC := Nu.hid hac
        have f0 : ∀ i, w2.frozen? ⟨w.heap.size + 1, i, none⟩ = false := fun i => by simp [World.frozen?, har2]
        have hc : ∀ i, i < ts.length * 4 → ∃ v, w2.cell? ⟨w.heap.size + 1, i, none⟩ = some v := fun i hi => ⟨arr[i]'(by omega), by rw [cell_of_row w2 _ i arr _ _ har2]; simp⟩
        obtain ⟨v0, c0⟩ := hc (us.length * 4) (by omega)
        obtain ⟨v1, c1⟩ := hc (us.length * 4 + 1) (by omega)
        obtain ⟨v2, c2⟩ := hc (us.length * 4 + 2) (by omega)
        obtain ⟨v3, c3⟩ := hc (us.length * 4 + 3) (by omega)
        clear hg2 hs2 har2 hac hc har hs
        unfold tokV
        go_wp2
        go_roundw
        case rel =>
          refine ⟨us ++ [t], vs, p', k', by rw [HTS.out]; simp, hp', HSF.out, by simp, ?_, ?_, ?_⟩
          · exact (put4at_other (w := w2) (by omega) (us.length * 4) _ _ _ _).trans HS2.out
          · exact RowToks.push HAR.out hasz HAC.out hle t
          · exact grownBy_put4at HG2.out (by omega) (us.length * 4) _ _ _ _
        case measure => simp [intOf]; omega
      · rw [HNX.out] at hnx2
        cases hnx2

end Go.Proofs.YtfjgmbimapkabaaDoor
/-
  What the function that Scan defers does: it takes a fault up and lays it into the results, or finds nothing.
-/
namespace Go.Proofs.YtfjgmbimapkabaaDoor
open Go.RowKit

set_option maxHeartbeats 1000000 in
theorem catch_idle (p q r : Addr) (w : World) :
    CallsD Tryd.prog 53 #[.pointer (some p), .pointer (some q), .pointer (some r)] .returning w fun e u' w' => e = .returned (.tuple #[]) ∧ u' = .returning ∧ w' = w := by
  refine callsD_of_wpS Tryd.func53 rfl fun c₀ cs hu => ?_
  apply wpS_seq
  apply wpS_region
  simp [wpOpsS, go_sem, recoverD, hu, Tryd.ntmps53, Exit.thenS]
  refine wpS_of_wp ?_
  go_wp2
  cases c₀
  simp_all [bodyPostS, results, Tryd.results53]

/-- The three results of Scan lie in the blocks A, A + 1, A + 2. -/
structure Res (w : World) (A : Nat) (s : Value) (at' code : Int) : Prop where
  toks : w.heap[A]? = some (.cells #[s] 103 (0, 0))
  place : w.heap[A + 1]? = some (.cells #[.int .i64 at'] 3 (0, 0))
  code : w.heap[A + 2]? = some (.cells #[.int .i64 code] 28 (0, 0))

/-- The results laid anew. -/
def put3 (w : World) (A : Nat) (s : Value) (a c : Int) : World := ((w.setCell ⟨A, 0, none⟩ s).setCell ⟨A + 1, 0, none⟩ (.int .i64 a)).setCell ⟨A + 2, 0, none⟩ (.int .i64 c)

theorem Res.put3 {w : World} {A : Nat} {s s' : Value} {a c a' c' : Int} (h : Res w A s a c) : Res (put3 w A s' a' c') A s' a' c' := by
  refine ⟨?_, ?_, ?_⟩
  · unfold Go.Proofs.YtfjgmbimapkabaaDoor.put3
    rw [heap_setCell_other _ ⟨A + 2, 0, none⟩ A _ (by simp), heap_setCell_other _ ⟨A + 1, 0, none⟩ A _ (by simp)]
    exact one_setCell h.toks
  · unfold Go.Proofs.YtfjgmbimapkabaaDoor.put3
    rw [heap_setCell_other _ ⟨A + 2, 0, none⟩ (A + 1) _ (by simp)]
    refine one_setCell (v := .int .i64 a) ?_
    rw [heap_setCell_other _ ⟨A, 0, none⟩ (A + 1) _ (by simp)]
    exact h.place
  · unfold Go.Proofs.YtfjgmbimapkabaaDoor.put3
    refine one_setCell (v := .int .i64 c) ?_
    rw [heap_setCell_other _ ⟨A + 1, 0, none⟩ (A + 2) _ (by simp), heap_setCell_other _ ⟨A, 0, none⟩ (A + 2) _ (by simp)]
    exact h.code

theorem put3_other (w : World) (A : Nat) (s : Value) (a c : Int) (k : Nat) (hk : k < A ∨ A + 2 < k) : (put3 w A s a c).heap[k]? = w.heap[k]? := by
  unfold put3
  rw [heap_setCell_other _ ⟨A + 2, 0, none⟩ k _ (by simp; omega), heap_setCell_other _ ⟨A + 1, 0, none⟩ k _ (by simp; omega), heap_setCell_other _ ⟨A, 0, none⟩ k _ (by simp; omega)]

theorem put3_size (w : World) (A : Nat) (s : Value) (a c : Int) : (put3 w A s a c).heap.size = w.heap.size := by simp [put3]

theorem put3_below (w : World) (A : Nat) (s : Value) (a c : Int) : Below A w (put3 w A s a c) :=
  ⟨rfl, rfl, rfl, by rw [put3_size]; exact Nat.le_refl _, fun k hk => put3_other w A s a c k (.inl hk)⟩

theorem Res.alloc {w : World} {A : Nat} {s : Value} {a c : Int} (h : Res w A s a c) (o : Obj) : Res (w.alloc o) A s a c :=
  ⟨(Below.heap_alloc w o A (lt_of_block h.toks)).trans h.toks, (Below.heap_alloc w o (A + 1) (lt_of_block h.place)).trans h.place, (Below.heap_alloc w o (A + 2) (lt_of_block h.code)).trans h.code⟩

theorem Res.drew {w : World} {A : Nat} {s : Value} {a c : Int} (h : Res w A s a c) : Res w.drew A s a c := ⟨h.toks, h.place, h.code⟩

theorem Res.grown {w w' : World} {A : Nat} {s : Value} {a c : Int} (h : Res w A s a c) (hg : w.grownBy w' none) : Res w' A s a c :=
  ⟨(hg.block A (lt_of_block h.toks) (by simp)).trans h.toks, (hg.block (A + 1) (lt_of_block h.place) (by simp)).trans h.place, (hg.block (A + 2) (lt_of_block h.code) (by simp)).trans h.code⟩

set_option maxHeartbeats 1000000 in
theorem catch_fault (A : Nat) (s : Value) (a c : Int) (x : Nat × Int) (w : World) (hr : Res w A s a c) :
    CallsD Tryd.prog 53 #[.pointer (some ⟨A, 0, none⟩), .pointer (some ⟨A + 1, 0, none⟩), .pointer (some ⟨A + 2, 0, none⟩)] (.panicking [{ v := faultV x, recovered := false }]) w fun e u' w' =>
      e = .returned (.tuple #[]) ∧ u' = .panicking [{ v := faultV x, recovered := true }] ∧ Res w' A (.slice none 0 0) x.1 x.2 ∧ Below A w w' := by
  have c0 := cell_of_one hr.toks
  have c1 := cell_of_one hr.place
  have c2 := cell_of_one hr.code
  have f0 := free_of_one hr.toks
  have f1 := free_of_one hr.place
  have f2 := free_of_one hr.code
  have l2 := lt_of_block hr.code
  have l1 := lt_of_block hr.place
  have l0 := lt_of_block hr.toks
  have hta : ∀ (v : Value) (w : World), (Instr.typeAssert (.iface 112 v) 20 112 true).run Tryd.prog w = .ok (.tuple #[v, .bool true]) w := fun _ _ => by kernel_rfl
  refine callsD_of_wpS Tryd.func53 rfl fun c₀ cs hu => ?_
  unfold faultV at hu ⊢
  apply wpS_seq
  apply wpS_region
  simp [wpOpsS, go_sem, recoverD, hu, Tryd.ntmps53, Exit.thenS, Array.replicate]
  refine wpS_of_wp ?_
  have HR := Nu.hid hr
  clear hr
  go_wp2
  go_region
  go_wp2
  exact ⟨rfl, _, rfl, .tuple #[], by simp [results, Tryd.results53], rfl, rfl, (HR.out.put3 (s' := .slice none 0 0) (a' := x.1) (c' := x.2)).alloc _ |>.drew, (put3_below w A (.slice none 0 0) x.1 x.2).trans (((Below.refl A _).alloc (by rw [put3_size]; omega) _).drew)⟩

end Go.Proofs.YtfjgmbimapkabaaDoor
