/-
  Proved: for every list of bytes and every list of numbers the law ParseBlanks answers true, and both lists read afterwards as before.
-/
import Derived.Test.YtkjmnfhpikoaaaaPaSpcX
namespace Go.Proofs.Ytkjmnfhpikoaaaa
open Go.ChangeShapes Go.WideShapes Go.ChangeAt Go.RowKit

namespace Pa
theorem tk_in {n : Int} {l : List Nu.Tok} (hn : 0 ≤ n) (h : ∀ t ∈ l, 0 ≤ t.at' ∧ t.at' ≤ n) (i : Nat) : 0 ≤ (tk l i).at' ∧ (tk l i).at' ≤ n := by
  unfold tk
  rw [List.getD_eq_getElem?_getD]
  cases hx : l[i]? with
  | none => simpa using hn
  | some t => exact h t (List.mem_of_getElem? hx)

theorem line_place {n : Int} {s : St} {l : List Nu.Tok} {x : Int × Int} (hn : 0 ≤ n) (h : ∀ t ∈ l, 0 ≤ t.at' ∧ t.at' ≤ n) (he : line s l = .error x) : 0 ≤ x.2 ∧ x.2 ≤ n := by
  unfold line at he
  split at he
  · unfold edge at he
    repeat' (split at he)
    all_goals first | (cases he; exact tk_in hn h _) | cases he
  · unfold header at he
    repeat' (split at he)
    all_goals first | (cases he; exact tk_in hn h _) | cases he

theorem go_place {n : Int} (hn : 0 ≤ n) : ∀ {ls : List (List Nu.Tok)} {s : St} {x : Int × Int}, (∀ l ∈ ls, ∀ t ∈ l, 0 ≤ t.at' ∧ t.at' ≤ n) → go s ls n = .error x → 0 ≤ x.2 ∧ x.2 ≤ n
  | [], s, x, _, he => by
    rw [go_nil] at he
    unfold fin at he
    repeat' (split at he)
    all_goals first | (cases he; exact ⟨hn, Int.le_refl _⟩) | cases he
  | l :: ls, s, x, h, he => by
    cases hl : line s l with
    | error y =>
      rw [go_error hl] at he
      cases he
      exact line_place hn (h l List.mem_cons_self) hl
    | ok s' =>
      rw [go_ok hl] at he
      exact go_place hn (fun l' hl' => h l' (List.mem_cons_of_mem _ hl')) he

theorem lns_from : ∀ (cur ts : List Nu.Tok) (l : List Nu.Tok), l ∈ lns cur ts → ∀ t ∈ l, t ∈ cur ∨ t ∈ ts
  | _, [], l, h, t, _ => by simp [lns] at h
  | cur, u :: ts, l, h, t, ht => by
    unfold lns at h
    split at h
    · rcases lns_from (cur ++ [u]) ts l h t ht with h | h
      · rcases List.mem_append.1 h with h | h
        · exact .inl h
        · simp at h; subst h; simp
      · exact .inr (List.mem_cons_of_mem _ h)
    · split at h
      · rcases lns_from [] ts l h t ht with h | h
        · cases h
        · exact .inr (List.mem_cons_of_mem _ h)
      · rcases List.mem_cons.1 h with rfl | h
        · exact .inl ht
        · rcases lns_from [] ts l h t ht with h | h
          · cases h
          · exact .inr (List.mem_cons_of_mem _ h)

theorem raw_place {g : Nat → Int} {n : Nat} {x : Int × Int} (hn : n ≤ 16777216) (h : raw g n = .error x) : 0 ≤ x.2 ∧ x.2 ≤ n := by
  unfold raw at h
  rw [if_neg (by omega)] at h
  split at h
  · rename_i y hs
    cases h
    have := Nu.scan_code hs
    dsimp only
    omega
  · rename_i ts hs
    refine go_place (by omega) (fun l hl t ht => ?_) h
    rcases lns_from [] ts l hl t ht with h' | h'
    · cases h'
    · have := Nu.scan_fits hs t h'
      exact ⟨this.2.1, this.2.2.1⟩
end Pa

/-- An answer: the number, the fault, the pairs. -/
def Out1 (r : Except (Int × Int) Pa.St) (n : Int) (x : Int × Int) (ps : List (Int × Int)) : Prop :=
  (r = .error x ∧ n = 0 ∧ ps = []) ∨ ∃ s, r = .ok s ∧ n = s.n ∧ x = (0, 0) ∧ ps = s.pairs

theorem RawPost.out1 {r : Except (Int × Int) Pa.St} {w w' : World} {e : Ending} (h : RawPost r w e w') : Below w.heap.size w w' ∧ ∃ n v x ps, e = .returned (.tuple #[rawVal n v, rejVal x]) ∧ Out1 r n x ps ∧ OwnPairs w' w.heap.size v ps := by
  obtain ⟨hb, ⟨x, hr, he⟩ | ⟨s, v, hr, he, hop⟩⟩ := h
  · exact ⟨hb, 0, .slice none 0 0, x, [], he, .inl ⟨hr, rfl, rfl⟩, World.ownsRow_nil _ _ _ _⟩
  · exact ⟨hb, s.n, v, (0, 0), s.pairs, he, .inr ⟨s, hr, rfl, rfl, rfl⟩, hop⟩

theorem Out1.moved {f : Nat → Nat} {r : Except (Int × Int) Pa.St} {n m : Int} {x y : Int × Int} {ps qs : List (Int × Int)} (h : Out1 r n x ps) (k : Out1 (Pa.moved f r) m y qs) : m = n ∧ qs = ps ∧ y.1 = x.1 ∧ ((r = .error x ∧ y.2 = (f x.2.toNat : Int)) ∨ (x = (0, 0) ∧ y = (0, 0))) := by
  rcases h with ⟨rfl, rfl, rfl⟩ | ⟨s, rfl, rfl, rfl, rfl⟩
  · rcases k with ⟨e, rfl, rfl⟩ | ⟨s, e, _⟩
    · simp [Pa.moved] at e
      subst e
      exact ⟨rfl, rfl, rfl, .inl ⟨rfl, rfl⟩⟩
    · simp [Pa.moved] at e
  · rcases k with ⟨e, _⟩ | ⟨s', e, rfl, rfl, rfl⟩
    · simp [Pa.moved] at e
    · simp [Pa.moved] at e
      subst e
      exact ⟨rfl, rfl, rfl, .inr ⟨rfl, rfl⟩⟩

theorem IsRow.nums {w : World} {a : Option Addr} {len cap : Nat} {zs : List Int} (h : IsRow .i64 8 w a len cap zs) : HasI w a len (fun i => zs.getD i 0) := by
  intro i hi
  rcases h with ⟨_, rfl, _⟩ | ⟨x, rfl, hl, hm, hz, hc, hw⟩
  · omega
  · have hlt : i < zs.length := by omega
    have hci := hc i hlt
    obtain ⟨b, o, sp⟩ := x
    have hsp : sp = none := by simpa [Addr.add] using World.cell?_spot (hc 0 (by omega))
    subst hsp
    refine ⟨?_, b, o, rfl, ?_⟩
    · have hm : zs.getD i 0 ∈ zs := by rw [List.getD_eq_getElem?_getD, List.getElem?_eq_getElem hlt]; simp
      exact bounds_i64 (hw _ hm)
    · have e : ((⟨b, o, none⟩ : Addr).add i) = ⟨b, o + i, none⟩ := by
        by_cases h0 : i = 0 <;> simp [Addr.add, h0]
      rw [e] at hci
      exact hci

/-- 'append([]byte{}, b...)', b a row of bytes of the call's own. -/
theorem wpList_copyO {ops : Array Oper} {rest : List Oper} {o : Oper} {a : Act} {Q : Exit → Act → World → Prop} (hgd : o.guard = none) (s x : Operand)
    (ho : o.op = .call { callee := .builtin .append, args := #[s, x], argTypes := #[22, 22] }) (W : World) (B : Nat) (v : Value) (O : List UInt8) (hs : a.eval s = .slice (some ⟨W.heap.size, 0, none⟩) 0 0) (hx : a.eval x = v)
    (hv : W.ownsRow B 5 1 v O.length (Lib.byteCells O)) (hl : O.length ≤ 140737488355328)
    (h : ∀ gb c w', HasText w' (some ⟨gb, 0, none⟩) O.length (Pa.ofL O) → gb < w'.heap.size → O.length ≤ c → Below W.heap.size W w' → wpList Try.prog ops Q rest (a.put o.dst (.slice (some ⟨gb, 0, none⟩) O.length c)) w') :
    wpList Try.prog ops Q (o :: rest) a (W.alloc (.cells #[] 5)) := by
  obtain ⟨i0, hi, hz0, hz1, hz2⟩ := info_parts Try.infoU8
  have hown0 : (W.alloc (.cells #[] 5)).ownsRow W.heap.size 5 1 (.slice (some ⟨W.heap.size, 0, none⟩) 0 0) 0 [] := World.ownsRow_made W #[] 0 (Nat.le_refl _) (Nat.zero_le _) rfl
  have hb0 : Below W.heap.size W (W.alloc (.cells #[] 5)) := (Below.refl _ _).alloc (Nat.le_refl _) _
  have hbl : (Lib.byteCells O).length = O.length := by simp [Lib.byteCells]
  have hv' := hv
  rcases hv.2 with ⟨rfl, h0⟩ | ⟨g, cap, cur, rfl, _⟩
  · have hO := List.length_eq_zero_iff.1 h0
    subst hO
    refine wpList_append_own_none hgd s x 22 ho W.heap.size 5 i0 1 Try.underlying22 hi _ 0 [] hs hown0 hx ?_
    exact h _ _ _ (fun i hi => by simp at hi) (by simp) (Nat.le_refl _) hb0
  · refine wpList_append_own _ hgd s x 22 ho W.heap.size 5 i0 (.int .u8 0) 1 1 Try.underlying22 hi hz0 hz1 hz2 rfl (by decide) _ 0 [] hs hown0 ⟨g, 0, none⟩ O.length cap (Lib.byteCells O) hx (by rw [hbl]; omega) ?_ ?_ (by unfold maxLen; omega) (by omega) (by simp) ?_
    · intro j u hj
      exact (World.grownBy_alloc W _ none).cell (World.ownsRow.cells hv' (g := g) rfl j u hj) (by simp)
    · intro u hu
      simp only [Lib.byteCells, List.mem_map] at hu
      obtain ⟨b, _, rfl⟩ := hu
      rfl
    · intro v' w' hown' hg hiff
      rw [Nat.zero_add, List.nil_append] at hown'
      have hbw : Below W.heap.size W w' := hb0.grown hg (by simp) (fun q hq => by cases hq; exact Nat.le_refl _)
      have hown2 := hown'
      rcases hown'.2 with ⟨hnil, _⟩ | ⟨gb, c, cur', rfl, hgb, hh, hlc, _⟩
      · have := (hiff.1 hnil).1
        cases this
      · refine h gb c w' (fun i hi => ⟨?_, gb, 0, rfl, ?_⟩) (lt_of_block hh) hlc hbw
        · unfold Pa.ofL
          have := (O.getD i 0).toNat_lt
          omega
        · have := World.ownsRow.cells hown2 (g := gb) rfl i (.int .u8 (Pa.ofL O i)) (by simp [Lib.byteCells, Pa.ofL, hi])
          rw [addr0] at this
          rw [Nat.zero_add]
          exact this

theorem own_max {w : World} {B : Nat} {v : Value} {ps : List (Int × Int)} (h : OwnPairs w B v ps) : ps.length ≤ 9223372036854775807 := by
  rcases h.2 with ⟨_, h0⟩ | ⟨g, cap, cur, _, _, _, hl, hc, _⟩
  · omega
  · unfold maxLen at hc
    omega

theorem row_below {w w' : World} {B n size A : Nat} {e : TypeId} {v : Value} {xs : List Value} (h : w.ownsRow B e size v n xs) (hb : Below A w w') (hA : w.heap.size ≤ A) : w'.ownsRow B e size v n xs := by
  refine ⟨h.1, ?_⟩
  rcases h.2 with h | ⟨g, cap, cur, e, hgB, hh, hr⟩
  · exact .inl h
  · exact .inr ⟨g, cap, cur, e, hgB, (hb.block g (by have := lt_of_block hh; omega)).trans hh, hr⟩

/-- A Raw and a Reject, just stored. -/
theorem two_new (w : World) (a b c d : Value) : ((w.alloc (.cells #[a, b] 26)).alloc (.cells #[c, d] 29)).heap[w.heap.size]? = some (.cells #[a, b] 26 (0, 0)) ∧ ((w.alloc (.cells #[a, b] 26)).alloc (.cells #[c, d] 29)).heap[w.heap.size + 1]? = some (.cells #[c, d] 29 (0, 0)) := by
  refine ⟨?_, ?_⟩
  · rw [Below.heap_alloc _ _ _ (by simp)]
    exact heap_alloc_new w _
  · have := heap_alloc_new (w.alloc (.cells #[a, b] 26)) (.cells #[c, d] 29)
    rwa [World.size_alloc] at this

namespace lawBlanks

set_option maxRecDepth 100000 in
set_option maxHeartbeats 8000000 in
theorem walk (a0 : Option Addr) (len0 cap0 : Nat) (z0 : List Int) (a1 : Option Addr) (len1 cap1 : Nat) (z1 : List Int) (w : World) (w0 : IsRow .u8 1 w a0 len0 cap0 z0) (w1 : IsRow .i64 8 w a1 len1 cap1 z1) :
    Calls Try.prog 4 #[.slice a0 len0 cap0, .slice a1 len1 cap1] w fun e w' => e = .returned (.bool true) ∧ Below w.heap.size w w' := by
  obtain ⟨i0, hi, hz0, hz1, hz2⟩ := info_parts Try.infoU8
  have hlen : len0 ≤ 140737488351232 := by simpa using w0.small
  have hlen1 : len1 * 8 ≤ 140737488351232 := w1.small
  have htk := w0.take
  have htx := w0.text
  have hnu := w1.nums
  have HROW := Nu.hid w0
  have HTX := Nu.hid htx
  have HTK := Nu.hid htk
  have HNU := Nu.hid hnu
  clear w0 w1 htx htk hnu
  by_cases hbig : 100000 < len0
  · have j0 : (100000 : Int) < (len0 : Int) := by omega
    go_enter Try.func4, Try.ntmps4
    go_wp2_with (go_at_call 6; refine (fixed_any _).mono ?_; rintro e w1 ⟨rfl, hb1⟩)
    go_ret
    exact ⟨rfl, hb1⟩
  have j0 : ¬ ((100000 : Int) < (len0 : Int)) := by omega
  go_enter Try.func4, Try.ntmps4
  go_wp2_with (go_at_call 6; refine (fixed_any _).mono ?_; rintro e w1 ⟨rfl, hb1⟩; refine Hid.out ?_)
  refine Nu.hid ?_
  have HB1 := Nu.hid hb1
  clear hb1
  obtain ⟨g, hg⟩ : ∃ g : Nat → Int, g = fun i => z0.getD i 0 := ⟨_, rfl⟩
  have HG := Nu.hid hg
  rw [← hg] at HTX
  clear hg
  go_wp2_with (go_at_call 11; refine (spaced_any a0 len0 cap0 g a1 len1 cap1 _ _ (HTX.out.later HB1.out) (by omega) (HNU.out.below HB1.out) (by omega)).mono ?_; refine Hid.out ?_)
  refine Nu.hid ?_
  rintro e w2 ⟨hb2, vo, va, O, A, rfl, hspc, hro, hra⟩
  have HB2 := Nu.hid (HB1.out.trans (hb2.mono HB1.out.size))
  obtain ⟨oa, oc, rfl⟩ : ∃ oa oc, vo = Value.slice oa O.length oc := by
    rcases hro.2 with ⟨h, h0⟩ | ⟨g', c', _, h, _⟩
    · exact ⟨none, 0, by rw [h, h0]⟩
    · exact ⟨_, _, h⟩
  obtain ⟨ga, ca, rfl⟩ : ∃ ga ca, va = Value.slice (some ⟨ga, 0, none⟩) (len0 + 1) ca := by
    rcases hra.2 with ⟨h, h0⟩ | ⟨g', c', _, h, _⟩
    · omega
    · exact ⟨_, _, h⟩
  have hOs := hspc.small
  have hraws := Pa.raw_spaced hspc.part (by omega) (by omega)
  have hAl := hspc.len
  have HRAWS := Nu.hid hraws
  have HRO := Nu.hid hro
  have HRA := Nu.hid hra
  have HAL := Nu.hid hAl
  have hs2 : w.heap.size ≤ w2.heap.size := HB2.out.size
  clear hb2 hro hra hspc hraws hAl
  go_wp2_with (at_builtin; refine wpList_copy rfl _ _ 22 rfl 5 .u8 i0 1 Try.underlying22 hi hz0 hz1 hz2 (by decide) w2 a0 len0 cap0 z0 rfl rfl (HROW.out.later HB2.out) ?_; refine Hid.out ?_)
  refine Nu.hid ?_
  intro gb c w3 hown hgb hlt hlc hb3
  rw [← List.map_take] at hown
  have hT3 := own_text HTK.out (fun i hi => by have := (HTX.out i hi).1; rw [HG.out] at this; exact this) hown
  rw [← HG.out] at hT3
  have HT3 := Nu.hid hT3
  have HB23 := Nu.hid hb3
  clear hown hb3 hT3
  go_wp2_with (go_at_call 7; refine (raw_any _ len0 c g _ HT3.out (by intro x hx; cases hx; exact hlt) (by unfold maxLen; omega) hlc).mono ?_; refine Hid.out ?_)
  refine Nu.hid ?_
  rintro e w4 hpost
  obtain ⟨hb4, n, v, x, ps, rfl, hout, hop⟩ := hpost.out1
  obtain ⟨pa, pc, rfl, hpx⟩ := hop.at
  have HPX : Hid (PairsAt w4 (.slice pa ps.length pc) ps) := ⟨pa, pc, rfl, hpx⟩
  have HOUT := Nu.hid hout
  have HB24 := Nu.hid (HB23.out.trans (hb4.mono HB23.out.size))
  have hs4 : w2.heap.size ≤ w4.heap.size := HB24.out.size
  unfold rawVal rejVal
  dsimp only
  clear hpost hb4 hout hop hpx
  have hb4X : Below w4.heap.size w4 ((w4.alloc (.cells #[.int .i64 n, .slice pa ps.length pc] 26)).alloc (.cells #[.int .i64 x.1, .int .i64 x.2] 29)) := ((Below.refl _ _).alloc (Nat.le_refl _) _).alloc (by simp) _
  have HB4X := Nu.hid hb4X
  have HTWO := Nu.hid (two_new w4 (.int .i64 n) (.slice pa ps.length pc) (.int .i64 x.1) (.int .i64 x.2))
  clear hb4X
  go_wp2_with (at_builtin; refine wpList_copyO rfl _ _ rfl ((w4.alloc (.cells #[.int .i64 n, .slice pa ps.length pc] 26)).alloc (.cells #[.int .i64 x.1, .int .i64 x.2] 29)) w1.heap.size (.slice oa O.length oc) O (by simp; rfl) rfl (row_below HRO.out (HB24.out.trans (HB4X.out.mono hs4)) (Nat.le_refl _)) (by omega) ?_; refine Hid.out ?_)
  refine Nu.hid ?_
  intro gb5 c5 w5 hT5 hlt5 hlc5 hb5
  have HT5 := Nu.hid hT5
  have HB5 := Nu.hid hb5
  clear hT5 hb5
  go_wp2_with (go_at_call 7; refine (raw_any _ O.length c5 (Pa.ofL O) _ HT5.out (by intro x hx; cases hx; exact hlt5) (by unfold maxLen; omega) hlc5).mono ?_; rw [HRAWS.out]; refine Hid.out ?_)
  refine Nu.hid ?_
  rintro e w6 hpost
  obtain ⟨hb6, n', v', y, qs, rfl, hout6, hop6⟩ := hpost.out1
  obtain ⟨hn6, hq6, hy6, hxy⟩ := HOUT.out.moved hout6
  subst hn6 hq6
  obtain ⟨y1, y2⟩ := y
  dsimp only at hy6
  subst hy6
  have hmax := own_max hop6
  obtain ⟨qa, qc, rfl, hqx⟩ := hop6.at
  have HQX : Hid (PairsAt w6 (.slice qa qs.length qc) qs) := ⟨qa, qc, rfl, hqx⟩
  have HXY := Nu.hid hxy
  unfold rawVal rejVal
  dsimp only
  have hs45 : w4.heap.size + 2 ≤ w5.heap.size := by have := HB5.out.size; simpa using this
  have hb46 : Below w4.heap.size w4 w6 := (HB4X.out.trans (HB5.out.mono (by first | omega | (simp; omega)))).trans (hb6.mono (by omega))
  have HB46 := Nu.hid hb46
  obtain ⟨k1, k2⟩ := HTWO.out
  have K1 : Hid (w6.heap[w4.heap.size]? = _) := Nu.hid ((hb6.block _ (by omega)).trans ((HB5.out.block _ (by first | omega | (simp; omega))).trans k1))
  have K2 : Hid (w6.heap[w4.heap.size + 1]? = _) := Nu.hid ((hb6.block _ (by omega)).trans ((HB5.out.block _ (by first | omega | simp)).trans k2))
  clear hpost hb6 hout6 hop6 hqx hxy hb46 k1 k2
  have jn : (n' != n') = false := by simp
  have jl : ((qs.length : Int) != (qs.length : Int)) = false := by simp
  have jx : (x.1 != x.1) = false := by simp
  obtain ⟨d10, d11, _⟩ := two_cells K1.out
  obtain ⟨d20, d21, _⟩ := two_cells K2.out
  have hl0 : w4.heap.size < w6.heap.size := lt_of_block K1.out
  have hl1 : w4.heap.size + 1 < w6.heap.size := lt_of_block K2.out
  go_wp2_with fail
  clear d10 d11 d20 d21
  generalize hX : (w6.alloc (.cells #[.int .i64 n', .slice qa qs.length qc] 26)).alloc (.cells #[.int .i64 x.1, .int .i64 y2] 29) = X
  have hbX : Below w6.heap.size w6 X := by rw [← hX]; exact ((Below.refl _ _).alloc (Nat.le_refl _) _).alloc (by simp) _
  have hb4X : Below w4.heap.size w4 X := HB46.out.trans (hbX.mono HB46.out.size)
  obtain ⟨k3, k4⟩ := two_new w6 (.int .i64 n') (.slice qa qs.length qc) (.int .i64 x.1) (.int .i64 y2)
  rw [hX] at k3 k4
  have k1 := (hbX.block _ (lt_of_block K1.out)).trans K1.out
  have k2 := (hbX.block _ (lt_of_block K2.out)).trans K2.out
  obtain ⟨c10, c11, _⟩ := two_cells k1
  obtain ⟨c20, c21, _⟩ := two_cells k2
  obtain ⟨c30, c31, _⟩ := two_cells k3
  obtain ⟨c40, c41, _⟩ := two_cells k4
  have HPXX := Nu.hid (HPX.out.below hb4X (Nat.le_refl _))
  have HQXX := Nu.hid (HQX.out.below hbX (Nat.le_refl _))
  have HB2X := Nu.hid (HB24.out.trans (hb4X.mono hs4))
  have HBX := Nu.hid (HB2.out.trans (HB2X.out.mono hs2))
  have HRAX := Nu.hid (row_below HRA.out HB2X.out (Nat.le_refl _))
  clear hX hbX hb4X k1 k2 k3 k4
  go_loopw [61] (fun c wr => ∃ (k m : Nat), k ≤ qs.length ∧ c = .int .i64 k ∧ wr = X.drewN m) (fun c _ => qs.length - (intOf c).toNat)
  case atStart => exact ⟨0, 0, Nat.zero_le _, rfl, rfl⟩
  case round =>
    obtain ⟨k, m, hk, rfl, rfl⟩ := hrel
    by_cases hlt : k < qs.length
    · have hlti : (k : Int) < (qs.length : Int) := by omega
      have hk0 : (0 : Int) ≤ (k : Int) := by omega
      obtain ⟨_, _, ep, hp⟩ := HPXX.out
      cases ep
      obtain ⟨P, rfl, p0, p1⟩ := hp k qs[k] (by simp [hlt])
      obtain ⟨_, _, eq, hq⟩ := HQXX.out
      cases eq
      obtain ⟨R, rfl, r0, r1⟩ := hq k qs[k] (by simp [hlt])
      generalize qs[k].1 = u at p0 r0
      generalize qs[k].2 = t at p1 r1
      clear hp hq
      have eqP := eqPair
      go_wp2_with fail
      go_quiet (fail)
      clear eqP
      go_wp2
      go_roundw
      case rel => exact ⟨k + 1, m + nq, by omega, by go_num, rfl⟩
      case measure => simp [intOf]; omega
    · have hd : ¬ ((k : Int) < (qs.length : Int)) := by omega
      rcases HXY.out with ⟨hr, hy2⟩ | ⟨hx0, hy0⟩
      · have hcode := Pa.raw_code hr
        have hpl := Pa.raw_place (n := len0) (by omega) hr
        have jc : (x.1 == 0) = false := by
          have := hcode.1
          simp
          omega
        obtain ⟨p, hp⟩ : ∃ p : Nat, x.2 = (p : Int) := ⟨x.2.toNat, by omega⟩
        have hp0 : ¬ ((p : Int) < 0) := by omega
        have hp1 : ¬ ((len0 : Int) < (p : Int)) := by omega
        rw [hp] at c21 hy2
        simp only [Int.toNat_natCast] at hy2
        by_cases hpe : p = len0
        · have hy : y2 = (O.length : Int) := by
            rw [hy2, hpe, List.getD_eq_getElem?_getD, List.getElem?_append_right (by rw [HAL.out]; exact Nat.le_refl _), HAL.out]
            simp
          subst hpe
          rw [hy] at c41
          have e1 : ((p : Int) == (p : Int)) = true := by simp
          have e2 : ((O.length : Int) == (O.length : Int)) = true := by simp
          clear hr hcode hpl hy2 hp hy
          go_wp2_with fail
          go_quiet (fail)
          go_wp2
          go_ret
          exact ⟨by simp, below_drewN (below_drewN HBX.out m) _⟩
        · have hplt : p < len0 := by omega
          have e1 : ((p : Int) == (len0 : Int)) = false := by simp; omega
          have e3 : (p : Int) < (len0 : Int) := by omega
          have e4 : (0 : Int) ≤ (p : Int) := by omega
          have e5 : (p : Int) < (len0 : Int) + 1 := by omega
          obtain ⟨q, hq⟩ : ∃ q : Nat, (A ++ [O.length])[p]? = some q := ⟨_, List.getElem?_eq_getElem (by rw [List.length_append, HAL.out]; simp; omega)⟩
          have hy : y2 = (q : Int) := by rw [hy2, List.getD_eq_getElem?_getD, hq]; rfl
          have cq := World.ownsRow.cells HRAX.out (g := ga) rfl p (.int .i64 q) (by unfold natCells; rw [List.getElem?_map, hq]; rfl)
          rw [addr0] at cq
          rw [hy] at c41
          have e2 : ((q : Int) == (q : Int)) = true := by simp
          clear hr hcode hpl hy2 hp hy hq
          go_wp2_with fail
          go_quiet (fail)
          go_wp2
          go_ret
          exact ⟨by simp, below_drewN (below_drewN HBX.out m) _⟩
      · have hx1 : x.1 = 0 := by rw [hx0]
        have hy1 : y2 = 0 := congrArg Prod.snd hy0
        rw [hx1] at c20
        rw [hy1] at c41
        clear hx0 hy0 hx1 hy1
        go_wp2
        go_ret
        exact ⟨by simp, below_drewN HBX.out m⟩

/-- What the walk gives, for every argument and every world. -/
theorem contract (H : Type) (enc : TypeId × Value → H) (W : World) (base : Nat) (args : Array Value) (ds gs : List (DataW H)) (before : List MemPlace)
    (hval : ∀ (j : Nat) t v, Try.f4.params[j]? = some t → args[j]? = some v → Value.okWide Try.prog W .any base t v)
    (hW : DataW.Whole enc Try.prog Try.f4.params.toList Rows.parseBlanksSpec.vars false W args.toList ds gs before)
    (hsz : (DataW.weightsEach Try.prog (Try.f4.params.toList ++ (OpenSpec.ofChange Rows.parseBlanksSpec).bare.plain.varTypes Try.prog) (ds ++ gs)).all (· ≤ reachBytes) = true)
    :
    Calls Try.prog 4 args W fun e W' => ∃ v, e = .returned v ∧ Rows.parseBlanksSpec.post enc Try.prog Try.f4 false true false false W args v W' := by
  have hW' := hW
  obtain ⟨p, q, hA0, hV, rfl, hfz, hnd⟩ := hW
  have hA : DataW.TrodAll enc Try.prog W 0 (fun _ => true) true Try.f4.params.toList args.toList ds p := hA0
  rw [Try.params4] at hA hval hsz
  obtain ⟨v0, vs0, d0, ds0, p0, q0, hargs, rfl, rfl, h0, r0⟩ := trodAll_cons hA
  obtain ⟨v1, vs1, d1, ds1, p1, q1, rfl, rfl, rfl, h1, r1⟩ := trodAll_cons r0
  obtain ⟨rfl, rfl, rfl⟩ := trodAll_nil r1
  obtain rfl : args = #[v0, v1] := by cases args; simp_all
  obtain ⟨rfl, rfl⟩ := trodVars_none hV
  obtain ⟨a0, len0, cap0, rfl⟩ := okWide_slice Try.underlying22 (hval 0 22 v0 rfl rfl)
  have k0 := h0
  have lt0 : ∀ x ∈ p0, x.block < W.heap.size := by obtain ⟨m, hm⟩ := k0; exact DataW.trod_lt m _ _ _ hm
  obtain ⟨z0, w0⟩ := IsRow.of_trod (j := 0) Try.underlying22 Try.underlying5 cellsU8 bytesU8 h0 hsz rfl rfl
  obtain ⟨a1, len1, cap1, rfl⟩ := okWide_slice Try.underlying32 (hval 1 32 v1 rfl rfl)
  have k1 := h1
  have lt1 : ∀ x ∈ p1, x.block < W.heap.size := by obtain ⟨m, hm⟩ := k1; exact DataW.trod_lt m _ _ _ hm
  obtain ⟨z1, w1⟩ := IsRow.of_trod (j := 1) Try.underlying32 Try.underlying3 cellsInt bytesInt h1 hsz rfl rfl
  clear hA0
  refine (walk a0 len0 cap0 z0 a1 len1 cap1 z1 W w0 w1).mono fun e W' ⟨he, bel⟩ => ?_
  subst he
  exact ⟨_, rfl, _, _, _, [], _, [], hW', trodAll_mk1 (shut_bool Try.underlying4 _), (trodAll_cons_mk (Below.trod laidOut (by kernel_rfl) (of_decide_eq_true (by kernel_rfl)) k0 bel lt0) (trodAll_cons_mk (Below.trod laidOut (by kernel_rfl) (of_decide_eq_true (by kernel_rfl)) k1 bel lt1) trodAll_mk0)), rfl, bel.frame _, fun h => by cases h⟩

theorem laid_met (os : Os) : laidMet Try.prog Rows.parseBlanksRow.laid ((settled os).forCall (fun _ _ => 0) ⟨#[], #[.slice none 0 0, .slice none 0 0], []⟩).memory :=
  laidMet_of_run' 100 (by kernel_rfl) (by kernel_rfl)
theorem reads (os : Os) {H : Type} (enc : TypeId × Value → H) : ∃ places, DataW.whole enc Try.prog ((settled os).forCall (fun _ _ => 0) ⟨#[], #[.slice none 0 0, .slice none 0 0], []⟩).memory Try.f4.params.toList Rows.parseBlanksSpec.vars false (#[.slice none 0 0, .slice none 0 0] : Array Value).toList 8 = some ([.nil, .nil], [], places) :=
  ⟨[], by kernel_rfl⟩

set_option maxRecDepth 100000 in
theorem lifted (os : Os) (started : os.Started) (H : Type) (enc : TypeId × Value → H) (F : Stop.Interp) :
    ReturnsInHanded {} Try.checked os 4 .any ((OpenSpec.ofChange Rows.parseBlanksSpec).preRow enc Try.prog Try.f4 Rows.parseBlanksRow.domain false Rows.parseBlanksRow.laid) (((OpenSpec.ofChange Rows.parseBlanksSpec).at F).post enc Try.prog Try.f4 false true false false) := by
  obtain ⟨places, hx⟩ := reads os enc
  refine returnsInHanded_of_row (C := Try.checked) (s := (OpenSpec.ofChange Rows.parseBlanksSpec)) own started (by kernel_rfl) Try.func4
    (witness_row_at (enc := enc) (C := Try.checked) false (settled os) #[.slice none 0 0, .slice none 0 0] rfl (by kernel_rfl) (by kernel_rfl) (by kernel_rfl)
      (OpenSpec.preRow_of_cond 8 hx (by kernel_rfl) (fun k hk => by cases hk) (by kernel_rfl) (laid_met os))) ?_
  intro W base args ds gs before hval hW _ _ hsz _ _ _
  exact contract H enc W base args ds gs before hval hW hsz 

theorem said : Rows.ParseBlanksSaid :=
  OpenClaim.holds_of_cond 4 Try.f4 rfl rfl rfl rfl rfl rfl rfl ⟨rfl, rfl, rfl, rfl, rfl⟩ rfl rfl rfl rfl rfl (by kernel_rfl) Try.func4 (by kernel_rfl)
    (of_decide_eq_true (by kernel_rfl)) (by unfold Func.isWrapper; first | (rw [if_pos (by decide +kernel)]; kernel_rfl) | (rw [if_neg (by decide +kernel)]; exact ⟨rfl, rfl⟩))
    (fun os started H enc _ F => by rw [OpenClaim.pre_eq_preRow]; exact lifted os started H enc F)


end lawBlanks

theorem parseBlanks_holds : Rows.ParseBlanksSaid := lawBlanks.said

#print axioms parseBlanks_holds
end Go.Proofs.Ytkjmnfhpikoaaaa
