import Derived.Test.YtfjgmbimapkabaaDoorMg28
import Derived.Test.YtfjgmbimapkabaaDoorMg20
/-
  The program's Parse.
-/
namespace Go.Proofs.YtfjgmbimapkabaaDoor
open Go.RowKit

/-- What is read, where the text may be as long. -/
def Ce.fin (n : Nat) : Except Nat (Ce.Cert × Nat) → Ce.Cert × Int × Int
  | .error e => (Ce.zero, (e : Int), 170)
  | .ok (c, j) => if j < n then (Ce.zero, (j : Int), 170) else (c, 0, 0)
/-- The document's reading, by the program's parts. -/
theorem Ce.parse_prf {B : Nat → Int} {n : Nat} (hT : Ce.Txt B n) : Ce.parse B n = if 33554432 < n then ((Ce.zero, 33554432, 10) : Ce.Cert × Int × Int) else Ce.fin n (Ce.prf B n) := by
  unfold Ce.parse
  by_cases c0 : 33554432 < n
  · rw [if_pos c0, if_pos c0]
  · rw [if_neg c0, if_neg c0]
    unfold Ce.prf
    by_cases h1 : B 0 = 112
    · rw [if_neg (by omega), if_pos h1]
      unfold Ce.rds Ce.cnt
      by_cases c2 : B 1 ≠ 32
      · rw [if_pos c2, if_pos c2]; rfl
      · rw [if_neg c2, if_neg c2]
        cases hm : Ce.num B n 2 with
        | none => rfl
        | some q =>
          obtain ⟨k, i⟩ := q
          rw [decide_eq_true h1]
          dsimp only
          by_cases c3 : Ce.most true < k
          · rw [if_pos c3, if_pos (show (1048576 : Int) < k from c3)]; rfl
          · rw [if_neg c3, if_neg (show ¬ (1048576 : Int) < k from c3)]
            by_cases c4 : B i ≠ 10
            · rw [if_pos c4, if_pos c4]; rfl
            · rw [if_neg c4, if_neg c4]
              unfold Ce.bdy
              dsimp only
              rw [if_pos rfl]
              cases Ce.lists B n k.toNat [] (i + 1) with
              | error e => rfl
              | ok q => rfl
    · rw [if_neg h1]
      by_cases h2 : B 0 = 110
      · rw [if_neg (by omega), if_pos h2]
        unfold Ce.prt Ce.cnt
        by_cases c2 : B 1 ≠ 32
        · rw [if_pos c2, if_pos c2]; rfl
        · rw [if_neg c2, if_neg c2]
          have hn1 := Ce.in_of hT (Classical.byContradiction c2 : B 1 = 32) (by decide)
          cases hm : Ce.num B n 2 with
          | none => rfl
          | some q =>
            obtain ⟨k, i⟩ := q
            rw [decide_eq_false h1]
            dsimp only
            by_cases c3 : Ce.most false < k
            · rw [if_pos c3, if_pos (show (4194304 : Int) < k from c3)]; rfl
            · rw [if_neg c3, if_neg (show ¬ (4194304 : Int) < k from c3)]
              by_cases c4 : B i ≠ 10
              · rw [if_pos c4, if_pos c4]; rfl
              · rw [if_neg c4, if_neg c4]
                have hni := Ce.in_of hT (Classical.byContradiction c4 : B i = 10) (by decide)
                unfold Ce.bdy
                dsimp only
                rw [if_neg (by simp), Ce.edges_zero k.toNat (i + 1) (by omega) hT]
                cases Ce.edges B n k.toNat [] (-1, 0) (i + 1) with
                | error e => rfl
                | ok q => rfl
      · rw [if_pos ⟨h1, h2⟩, if_neg h2]
        rfl

set_option maxHeartbeats 2000000 in
set_option maxRecDepth 100000 in
theorem certOf17_any {c : Ce.Cert} {w : World} {B : Nat} {v : Value} (h : PrfV c w B v) :
    Calls Tryd.prog 17 #[v] w fun e w' => Below w.heap.size w w' ∧ ∃ u, e = .returned u ∧ CertAt w' B u c := by
  have hta1 : ∀ (v : Value) (w : World), (Instr.typeAssert (.iface 71 v) 47 71 true).run Tryd.prog w = .ok (.tuple #[v, .bool true]) w := fun _ _ => by kernel_rfl
  have hta2 : ∀ (v : Value) (w : World), (Instr.typeAssert (.iface 72 v) 47 71 true).run Tryd.prog w = .ok (.tuple #[.slice none 0 0, .bool false]) w := fun _ _ => by kernel_rfl
  have hta3 : ∀ (v : Value) (w : World), (Instr.typeAssert (.iface 72 v) 47 72 true).run Tryd.prog w = .ok (.tuple #[v, .bool true]) w := fun _ _ => by kernel_rfl
  obtain ⟨pl, ar, es⟩ := c
  rcases h with ⟨h1, h2, va, vs, rfl, hr⟩ | ⟨h1, h2, ve, rfl, ho⟩
  · dsimp only at h1 h2 hr
    subst h1 h2
    obtain ⟨ao, ca, rfl⟩ := row_shape hr
    have HR := Nu.hid hr
    clear hr hta2 hta3
    go_enter Tryd.func17, Tryd.ntmps17
    go_wp2
    have k0 : ((w.alloc (.cells #[.bool true, .slice ao ar.length ca, .slice none 0 0] 27)).alloc (.cells #[.bool true, .slice ao ar.length ca, .slice none 0 0] 27)).heap[w.heap.size]? = some (.cells #[.bool true, .slice ao ar.length ca, .slice none 0 0] 27 (0, 0)) := by
      rw [Below.heap_alloc _ _ _ (by simp)]
      exact heap_alloc_new w _
    have hb : Below w.heap.size w ((w.alloc (.cells #[.bool true, .slice ao ar.length ca, .slice none 0 0] 27)).alloc (.cells #[.bool true, .slice ao ar.length ca, .slice none 0 0] 27)) := ((Below.refl _ _).alloc (Nat.le_refl _) _).alloc (by simp) _
    refine bodyPost_ret (v := .agg #[.bool true, .slice ao ar.length ca, .slice none 0 0]) (results_cell_row (p := 2) (ty := 27) Tryd.results17 _ _ w.heap.size 27 _ (0, 0) _ rfl k0 Tryd.underlying27 rfl (by kernel_rfl)) rfl ?_
    exact ⟨hb, _, rfl, _, _, vs, rfl, HR.out.later hb, OwnE.nil _ _⟩
  · dsimp only at h1 h2 ho
    subst h1 h2
    obtain ⟨ao, ca, rfl, -⟩ := ho.form
    have HO := Nu.hid ho
    clear ho hta1
    go_enter Tryd.func17, Tryd.ntmps17
    go_wp2
    have k0 : ((w.alloc (.cells #[.bool false, .slice none 0 0, .slice ao es.length ca] 27)).alloc (.cells #[.bool false, .slice none 0 0, .slice ao es.length ca] 27)).heap[w.heap.size]? = some (.cells #[.bool false, .slice none 0 0, .slice ao es.length ca] 27 (0, 0)) := by
      rw [Below.heap_alloc _ _ _ (by simp)]
      exact heap_alloc_new w _
    have hb : Below w.heap.size w ((w.alloc (.cells #[.bool false, .slice none 0 0, .slice ao es.length ca] 27)).alloc (.cells #[.bool false, .slice none 0 0, .slice ao es.length ca] 27)) := ((Below.refl _ _).alloc (Nat.le_refl _) _).alloc (by simp) _
    refine bodyPost_ret (v := .agg #[.bool false, .slice none 0 0, .slice ao es.length ca]) (results_cell_row (p := 2) (ty := 27) Tryd.results17 _ _ w.heap.size 27 _ (0, 0) _ rfl k0 Tryd.underlying27 rfl (by kernel_rfl)) rfl ?_
    exact ⟨hb, _, rfl, _, _, [], rfl, RowsZ.nil _ _, HO.out.below hb (Nat.le_refl _)⟩

set_option maxHeartbeats 2000000 in
set_option maxRecDepth 100000 in
theorem parse17_any {ao : Option Addr} {n cap : Nat} {g : Nat → Int} {w : World} (ht : HasText w ao n g) (ha : ∀ x, ao = some x → x.block < w.heap.size ∧ x.spot = none) (hn : n ≤ 4611686018427387904) (hcap : n ≤ cap) :
    Calls Tryd.prog 9 #[.slice ao n cap] w (ParsP (Ce.parse (Ce.atF n g) n) w) := by
  rw [Ce.parse_prf ht.txt]
  by_cases c0 : 33554432 < n
  · have c0i : (33554432 : Int) < (n : Int) := by omega
    rw [if_pos c0]
    go_enter Tryd.func9, Tryd.ntmps9
    go_wp2
    refine bodyPost_ret (v := .tuple #[.agg #[.bool false, .slice none 0 0, .slice none 0 0], .int .i64 33554432, .int .i64 10]) (by simp [results, Tryd.results9, go_sem]) rfl ⟨?_, _, rfl, certAt_zero _ _⟩
    exact (Below.refl _ _).alloc (Nat.le_refl _) _
  · have c0i : ¬ ((33554432 : Int) < (n : Int)) := by omega
    rw [if_neg c0]
    have hb0 : Below w.heap.size w (w.alloc (.cells #[.bool false, .slice none 0 0, .slice none 0 0] 27)) := (Below.refl _ _).alloc (Nat.le_refl _) _
    have hz := heap_alloc_new w (.cells #[.bool false, .slice none 0 0, .slice none 0 0] 27)
    have HC := Nu.hid (read17_any (cap := cap) (ht.later hb0) (fun x hx => ⟨by have := (ha x hx).1; simp; omega, (ha x hx).2⟩) (by omega) hcap)
    obtain ⟨R, hR⟩ : ∃ R, Ce.prf (Ce.atF n g) n = R := ⟨_, rfl⟩
    rw [hR] at HC ⊢
    obtain ⟨X, hX⟩ : ∃ X : Ce.Cert × Int × Int, Ce.fin n R = X := ⟨_, rfl⟩
    rw [hX]
    have HX := Nu.hid hX
    have HZ := Nu.hid hz
    have HB0 := Nu.hid hb0
    clear ht hz hb0 hR hX
    go_enter Tryd.func9, Tryd.ntmps9
    go_wp2_with (go_at_call 16; refine HC.out.mono ?_; refine Hid.out ?_)
    refine Nu.hid ?_
    rintro e w1 ⟨hb1, ⟨c, j, v, hR, hj, rfl, hv⟩ | ⟨q, hR, rfl⟩⟩
    · subst hR
      have hx := HX.out
      rw [Ce.fin, if_neg hj] at hx
      subst hx
      have hz1 := (hb1.block _ (lt_of_block HZ.out)).trans HZ.out
      have HB1 := Nu.hid (HB0.out.trans (hb1.mono HB0.out.size))
      rw [World.size_alloc] at hv
      have HV := Nu.hid hv
      have HZ1 := Nu.hid hz1
      clear hb1 hv hz1
      go_wp2_with (go_at_call 17; refine (certOf17_any HV.out).mono ?_; rintro e w2 ⟨hb2, u, rfl, va, ve, vs, rfl, hrows, hown⟩; obtain ⟨va1, va2, rfl⟩ := row_shape hrows; obtain ⟨ve1, ve2, rfl, -⟩ := hown.form; have hz2 := (hb2.block _ (lt_of_block HZ1.out)).trans HZ1.out; have z0 := (three_cells17 hz2).1; have z1 := (three_cells17 hz2).2.1; have z2 := (three_cells17 hz2).2.2.1; have zf := (three_cells17 hz2).2.2.2)
      have k0 := three_set17 hz2 (.bool c.pl) (.slice va1 c.ar.length va2) (.slice ve1 c.es.length ve2)
      obtain ⟨r0, r1, r2, -⟩ := three_cells17 k0
      have ho : ∀ b, b ≠ w.heap.size → (((w2.setCell ⟨w.heap.size, 0, none⟩ (.bool c.pl)).setCell ⟨w.heap.size, 1, none⟩ (.slice va1 c.ar.length va2)).setCell ⟨w.heap.size, 2, none⟩ (.slice ve1 c.es.length ve2)).heap[b]? = w2.heap[b]? := fun b hb => by
        rw [heap_setCell_other _ ⟨w.heap.size, 2, none⟩ b _ hb, heap_setCell_other _ ⟨w.heap.size, 1, none⟩ b _ hb, heap_setCell_other _ ⟨w.heap.size, 0, none⟩ b _ hb]
      refine bodyPost_ret (v := .tuple #[.agg #[.bool c.pl, .slice va1 c.ar.length va2, .slice ve1 c.es.length ve2], .int .i64 0, .int .i64 0]) (by simp [results, Tryd.results9, go_sem, r0, r1, r2]) rfl ⟨?_, _, rfl, _, _, vs, rfl, ?_, ?_⟩
      · have hb3 : Below w.heap.size w w2 := HB1.out.trans (hb2.mono HB1.out.size)
        exact ((hb3.setCell (p := ⟨w.heap.size, 0, none⟩) (Nat.le_refl _) _).setCell (p := ⟨w.heap.size, 1, none⟩) (Nat.le_refl _) _).setCell (p := ⟨w.heap.size, 2, none⟩) (Nat.le_refl _) _
      · exact (hrows.same fun k h1 _ => ho k (by omega)).lower (by omega)
      · exact OwnE.lower (row_same hown fun k _ h1 _ => ho k (by omega)) (by omega)
    · have hx : ((Ce.zero, (q : Int), (170 : Int)) : Ce.Cert × Int × Int) = X := by
        rw [← HX.out]
        rcases hR with rfl | ⟨c, rfl, hq⟩
        · rfl
        · rw [Ce.fin, if_pos hq]
      subst hx
      have hz1 := (hb1.block _ (lt_of_block HZ.out)).trans HZ.out
      have HB1 := Nu.hid (HB0.out.trans (hb1.mono HB0.out.size))
      obtain ⟨z0, z1, z2, zf⟩ := three_cells17 hz1
      have k0 := three_set17 hz1 (.bool false) (.slice none 0 0) (.slice none 0 0)
      obtain ⟨r0, r1, r2, -⟩ := three_cells17 k0
      clear hb1 hR HC
      go_wp2
      refine bodyPost_ret (v := .tuple #[.agg #[.bool false, .slice none 0 0, .slice none 0 0], .int .i64 (q : Int), .int .i64 170]) (by simp [results, Tryd.results9, go_sem, r0, r1, r2]) rfl (parsP_err rfl ?_)
      exact ((HB1.out.setCell (p := ⟨w.heap.size, 0, none⟩) (Nat.le_refl _) _).setCell (p := ⟨w.heap.size, 1, none⟩) (Nat.le_refl _) _).setCell (p := ⟨w.heap.size, 2, none⟩) (Nat.le_refl _) _
end Go.Proofs.YtfjgmbimapkabaaDoor
/-
  The program's proof of edges: has the form room for it?
-/
namespace Go.Proofs.YtfjgmbimapkabaaDoor
open Go.RowKit

/-- What part's fits has seen. -/
structure FitE (w : World) (es : List (Int × Int)) (k : Nat) (la lb : Int) (W : World) : Prop where
  low : Below w.heap.size w W
  last : W.heap[w.heap.size]? = some (.cells #[.int .i64 la, .int .i64 lb] 55 (0, 0))
  one : ∀ (i : Nat) (p : Int × Int), i < k → es[i]? = some p → Ce.okN p.1 ∧ Ce.okN p.2 ∧ p.1 < p.2
  two : ∀ (i : Nat) (p q : Int × Int), i + 1 < k → es[i]? = some p → es[i + 1]? = some q → p.1 < q.1 ∨ (p.1 = q.1 ∧ p.2 < q.2)
  zero : k = 0 → la = 0 ∧ lb = 0
  prev : ∀ (j : Nat) (p : Int × Int), k = j + 1 → es[j]? = some p → (la, lb) = p
section
variable {w W W' : World} {es : List (Int × Int)} {k : Nat} {la lb u v : Int}
theorem FitE.later (h : FitE w es k la lb W) (hb : Below W.heap.size W W') : FitE w es k la lb W' :=
  ⟨h.low.trans (hb.mono h.low.size), (hb.block _ (lt_of_block h.last)).trans h.last, h.one, h.two, h.zero, h.prev⟩
theorem FitE.more (h : FitE w es k la lb W) (he : es[k]? = some (u, v)) (h1 : Ce.okN u ∧ Ce.okN v ∧ u < v) (h2 : la < u ∨ (la = u ∧ lb < v)) : FitE w es (k + 1) u v ((W.setCell ⟨w.heap.size, 0, none⟩ (.int .i64 u)).setCell ⟨w.heap.size, 1, none⟩ (.int .i64 v)) := by
  refine ⟨(h.low.setCell (p := ⟨w.heap.size, 0, none⟩) (Nat.le_refl _) _).setCell (p := ⟨w.heap.size, 1, none⟩) (Nat.le_refl _) _, ?_, fun i p hi hp => ?_, fun i p q hi hp hq => ?_, fun h => absurd h (by omega), fun j p hj hp => ?_⟩
  · rw [heap_setCell_same _ _ 1 _ _ _ (heap_setCell_same W _ 0 _ _ _ h.last)]
    simp
  · by_cases hik : i = k
    · subst hik
      rw [he] at hp
      cases hp
      exact h1
    · exact h.one i p (by omega) hp
  · by_cases hik : i + 1 = k
    · have := h.prev i p (by omega) hp
      subst this
      rw [hik, he] at hq
      cases hq
      exact h2
    · exact h.two i p q (by omega) hp hq
  · obtain rfl : k = j := by omega
    rw [he] at hp
    cases hp
    rfl
theorem FitE.no (h : FitE w es k la lb W) (he : es[k]? = some (u, v)) (hn : ¬ ((Ce.okN u ∧ Ce.okN v ∧ u < v) ∧ (la < u ∨ (la = u ∧ lb < v)))) : ¬ Ce.okEs es := fun ho => by
  have h1 := ho.1.1 (u, v) (List.mem_of_getElem? he)
  dsimp only at h1
  refine hn ⟨h1, ?_⟩
  cases k with
  | zero =>
    obtain ⟨rfl, rfl⟩ := h.zero rfl
    have := h1.1.1
    have := h1.2.2
    omega
  | succ j =>
    have hj : j < es.length := by have := (List.getElem?_eq_some_iff.1 he).1; omega
    have hp : es[j]? = some es[j] := List.getElem?_eq_getElem hj
    have e := h.prev j _ rfl hp
    have h2 := ho.1.2 j _ (u, v) hp he
    rw [← e] at h2
    exact h2
theorem FitE.yes (h : FitE w es es.length la lb W) (hl : es.length ≤ 4194304) : Ce.okEs es := by
  refine ⟨⟨fun p hp => ?_, fun i p q hp hq => h.two i p q (List.getElem?_eq_some_iff.1 hq).1 hp hq⟩, hl⟩
  obtain ⟨i, hi⟩ := List.getElem?_of_mem hp
  exact h.one i p (List.getElem?_eq_some_iff.1 hi).1 hi
theorem FitE.start (w : World) (es : List (Int × Int)) : FitE w es 0 0 0 (w.alloc (.cells #[.int .i64 0, .int .i64 0] 55)) :=
  ⟨(Below.refl _ _).alloc (Nat.le_refl _) _, heap_alloc_new w _, fun i p h => by omega, fun i p q h => by omega, fun _ => ⟨rfl, rfl⟩, fun j p h => by omega⟩
end

set_option maxRecDepth 100000 in
set_option maxHeartbeats 4000000 in
theorem pfitsE17_any {w : World} {ao : Option Addr} {c : Nat} {es : List (Int × Int)} (h : EdgesAt w ao es) (hs : es.length ≤ 4611686018427387904) :
    Calls Tryd.prog 90 #[.slice ao es.length c] w fun e w' => Ce.Says e (Ce.okEs es) ∧ Below w.heap.size w w' := by
  obtain ⟨n, hn⟩ : ∃ n, es.length = n := ⟨_, rfl⟩
  rw [hn] at hs ⊢
  have HS := Nu.hid h
  have HN := Nu.hid hn
  clear h hn
  by_cases hc : 4194304 < n
  · have hci : (4194304 : Int) < (n : Int) := by omega
    go_enter Tryd.func90, Tryd.ntmps90
    go_wp2
    go_ret
    exact ⟨Ce.Says.no fun h => by have := h.2; have := HN.out; omega, Below.refl _ _⟩
  · have hci : ¬ ((4194304 : Int) < (n : Int)) := by omega
    go_enter Tryd.func90, Tryd.ntmps90
    go_wp2
    go_loopw [11] (fun iv wr => ∃ (k : Nat) (la lb : Int), k ≤ n ∧ iv = .int .i64 (k : Int) ∧ FitE w es k la lb wr) (fun iv _ => n - (intOf iv).toNat)
    case atStart => exact ⟨0, 0, 0, Nat.zero_le _, rfl, FitE.start w es⟩
    case round =>
      obtain ⟨k, la, lb, hk, rfl, hf⟩ := hrel
      have HF := Nu.hid hf
      clear hf
      by_cases hlt : k < n
      · have hlti : (k : Int) < (n : Int) := by omega
        obtain ⟨⟨u, v⟩, he⟩ : ∃ p, es[k]? = some p := ⟨_, List.getElem?_eq_getElem (by have := HN.out; omega)⟩
        obtain ⟨b, o, rfl, g0, g1⟩ := (HS.out.later HF.out.low) k (u, v) he
        dsimp only at g0 g1
        have HE := Nu.hid he
        have k0 : (0 : Int) ≤ (k : Int) := by omega
        have hf2 := HF.out.later ((Below.refl _ _).alloc (Nat.le_refl _) (.cells #[.int .i64 u, .int .i64 v] 55))
        obtain ⟨l0, l1, lf⟩ := two_cells17 hf2.last
        have HF2 := Nu.hid hf2
        have hDU : Hid (∀ W, Calls Tryd.prog 89 #[.int .i64 u] W fun e w' => e = .returned (.bool (decide (0 ≤ u ∧ u ≤ 999999999))) ∧ w' = W) := fun W => pdigits17 u W
        have hDV : Hid (∀ W, Calls Tryd.prog 89 #[.int .i64 v] W fun e w' => e = .returned (.bool (decide (0 ≤ v ∧ v ≤ 999999999))) ∧ w' = W) := fun W => pdigits17 v W
        have hAB : Hid (∀ W, Calls Tryd.prog 48 #[.agg #[.int .i64 u, .int .i64 v], .agg #[.int .i64 la, .int .i64 lb]] W fun e w' => e = .returned (.bool (decide (la < u ∨ (la = u ∧ lb < v)))) ∧ Below W.heap.size W w') := fun W => above17 u v la lb W
        clear he hf2
        by_cases hu : 0 ≤ u ∧ u ≤ 999999999
        · rw [decide_eq_true hu] at hDU
          by_cases hv : 0 ≤ v ∧ v ≤ 999999999
          · rw [decide_eq_true hv] at hDV
            by_cases huv : v ≤ u
            · have HNO := Nu.hid (HF.out.no HE.out fun h => by have := h.1.2.2; omega)
              clear hu hv
              go_wp2_with (first | (go_at_call 89; with_reducible refine (hDU.out _).mono ?_; rintro e w' ⟨rfl, hw'⟩; obtain rfl := hw'.symm; clear hw') | (go_at_call 89; with_reducible refine (hDV.out _).mono ?_; rintro e w' ⟨rfl, hw'⟩; obtain rfl := hw'.symm; clear hw'))
              go_ret
              exact ⟨Ce.Says.no HNO.out, HF2.out.low⟩
            · have hvu : ¬ u ≥ v := huv
              by_cases hab : la < u ∨ (la = u ∧ lb < v)
              · rw [decide_eq_true hab] at hAB
                have HOK : Hid ((Ce.okN u ∧ Ce.okN v ∧ u < v) ∧ (la < u ∨ (la = u ∧ lb < v))) := ⟨⟨hu, hv, by omega⟩, hab⟩
                clear hu hv hab
                go_wp2_with (first | (go_at_call 89; with_reducible refine (hDU.out _).mono ?_; rintro e w' ⟨rfl, hw'⟩; obtain rfl := hw'.symm; clear hw') | (go_at_call 89; with_reducible refine (hDV.out _).mono ?_; rintro e w' ⟨rfl, hw'⟩; obtain rfl := hw'.symm; clear hw') | (go_at_call 48; with_reducible refine (hAB.out _).mono ?_; rintro e w6 ⟨rfl, hb6⟩; have hf6 := HF2.out.later hb6; have m0 := (two_cells17 hf6.last).1; have m1 := (two_cells17 hf6.last).2.1; have mf := (two_cells17 hf6.last).2.2; have hz := heap_alloc_new wr (.cells #[.int .i64 u, .int .i64 v] 55); have hz6 := (hb6.block _ (lt_of_block hz)).trans hz; have n0 := (two_cells17 hz6).1; have n1 := (two_cells17 hz6).2.1; have HF6 := Nu.hid hf6; clear hb6 hf6 hz hz6))
                go_roundw
                case rel => exact ⟨k + 1, u, v, by omega, by go_num, HF6.out.more HE.out HOK.out.1 HOK.out.2⟩
                case measure => simp [intOf]; omega
              · rw [decide_eq_false hab] at hAB
                have HNO := Nu.hid (HF.out.no HE.out fun h => hab h.2)
                clear hu hv hab
                go_wp2_with (first | (go_at_call 89; with_reducible refine (hDU.out _).mono ?_; rintro e w' ⟨rfl, hw'⟩; obtain rfl := hw'.symm; clear hw') | (go_at_call 89; with_reducible refine (hDV.out _).mono ?_; rintro e w' ⟨rfl, hw'⟩; obtain rfl := hw'.symm; clear hw') | (go_at_call 48; with_reducible refine (hAB.out _).mono ?_; rintro e w6 ⟨rfl, hb6⟩))
                go_ret
                exact ⟨Ce.Says.no HNO.out, (HF2.out.later hb6).low⟩
          · rw [decide_eq_false hv] at hDV
            have HNO := Nu.hid (HF.out.no HE.out fun h => hv h.1.2.1)
            clear hu hv
            go_wp2_with (first | (go_at_call 89; with_reducible refine (hDU.out _).mono ?_; rintro e w' ⟨rfl, hw'⟩; obtain rfl := hw'.symm; clear hw') | (go_at_call 89; with_reducible refine (hDV.out _).mono ?_; rintro e w' ⟨rfl, hw'⟩; obtain rfl := hw'.symm; clear hw'))
            go_ret
            exact ⟨Ce.Says.no HNO.out, HF2.out.low⟩
        · rw [decide_eq_false hu] at hDU
          have HNO := Nu.hid (HF.out.no HE.out fun h => hu h.1.1)
          clear hu
          go_wp2_with (first | (go_at_call 89; with_reducible refine (hDU.out _).mono ?_; rintro e w' ⟨rfl, hw'⟩; obtain rfl := hw'.symm; clear hw') | (go_at_call 89; with_reducible refine (hDV.out _).mono ?_; rintro e w' ⟨rfl, hw'⟩; obtain rfl := hw'.symm; clear hw'))
          go_ret
          exact ⟨Ce.Says.no HNO.out, HF2.out.low⟩
      · have hlti : ¬ ((k : Int) < (n : Int)) := by omega
        obtain rfl : k = n := by omega
        go_wp2
        go_ret
        have hf := HF.out
        rw [← HN.out] at hf
        exact ⟨Ce.Says.yes (hf.yes (by have := HN.out; omega)), HF.out.low⟩
end Go.Proofs.YtfjgmbimapkabaaDoor
/-
  The program's writer: the text of a proof.
-/
namespace Go.Proofs.YtfjgmbimapkabaaDoor
open Go.RowKit

/-- What is written of a text T, up to P; or it is too long. -/
def WrS (w : World) (B b : Nat) (T P : List UInt8) : Prop :=
  ∃ L t, IsWrt w B b L t ∧ L.length ≤ 300000000 ∧ ((t = false ∧ L = P) ∨ (t = true ∧ 33554432 < T.length))
theorem WrS.line {w : World} {B b : Nat} {T P : List UInt8} (h : WrS w B b T P) (hB : B ≤ w.heap.size) {ao : Option Addr} {c : Nat} {l : List Int} (ha : IntsAt w ao l) (hok : ∀ x ∈ l, Ce.okN x) (hl : l.length ≤ 4611686018427387) (ht : Tab w) (hT : ∃ R, T = P ++ Ce.lineB l ++ R) :
    Calls Tryd.prog 31 #[.pointer (some ⟨b, 0, none⟩), .slice ao l.length c] w fun e w' => e = .returned (.tuple #[]) ∧ WrS w' B b T (P ++ Ce.lineB l) ∧ Below B w w' := by
  obtain ⟨L, t, hw, hL, hx⟩ := h
  rcases hx with ⟨rfl, rfl⟩ | ⟨rfl, hlong⟩
  · by_cases hs : L.length + 2 * l.length ≤ 33554432
    · refine (wline17_more hw hB ha hok ht hs).mono ?_
      rintro e w' ⟨he, h1, h2⟩
      have := Ce.line_hi l hok
      exact ⟨he, ⟨_, _, h1, by rw [List.length_append]; omega, .inl ⟨rfl, rfl⟩⟩, h2⟩
    · refine (wline17_long (ao := ao) (c := c) hw hl (.inr (by omega)) (by omega)).mono ?_
      rintro e w' ⟨he, h1, h2⟩
      refine ⟨he, ⟨_, _, h1, hL, .inr ⟨rfl, ?_⟩⟩, h2⟩
      obtain ⟨R, rfl⟩ := hT
      have := Ce.line_lo l
      rw [List.length_append, List.length_append]
      omega
  · refine (wline17_long (ao := ao) (c := c) hw hl (.inl rfl) (by omega)).mono ?_
    rintro e w' ⟨he, h1, h2⟩
    exact ⟨he, ⟨_, _, h1, hL, .inr ⟨rfl, hlong⟩⟩, h2⟩

/-- What the end of write answers. -/
theorem WrS.end {w : World} {B b : Nat} {T : List UInt8} (h : WrS w B b T T) (hT : T ≠ []) :
    ∃ K : Nat, ∃ t : Bool, w.cell? ⟨b, 2, none⟩ = some (.bool t) ∧ (Calls Tryd.prog 32 #[.pointer (some ⟨b, 0, none⟩)] w fun e w' => e = .returned (.int .i64 (K : Int)) ∧ w' = w) ∧
      (t = true ∧ 33554432 < T.length ∨ t = false ∧ K = T.length ∧ Calls Tryd.prog 33 #[.pointer (some ⟨b, 0, none⟩)] w fun e w' => e = .returned (.string ⟨T.toArray⟩) ∧ Below B w w') := by
  obtain ⟨L, t, hw, hL, hx⟩ := h
  obtain ⟨p, h1⟩ := hw.some
  obtain ⟨vo, vc, -, -, c2, -, -⟩ := h1.cells
  refine ⟨L.length, t, c2, wlen17_any hw, ?_⟩
  rcases hx with ⟨rfl, rfl⟩ | ⟨rfl, hlong⟩
  · exact .inr ⟨rfl, rfl, wstring17_any hw hT⟩
  · exact .inl ⟨rfl, hlong⟩
end Go.Proofs.YtfjgmbimapkabaaDoor
