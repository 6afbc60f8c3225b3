/-
  Proved: for every list of keys and every number, of bulk at most 1048576 together, the law BucketSorts answers true, and the list reads afterwards as before. Condition: the tables that strconv and math/bits lay read as the program's text lays them (the card ties them).
-/
import Derived.Test.YtofphdmebjcofaaDoorBuNames
import Derived.Test.YtofphdmebjcofaaDoorBuIn
import Derived.Test.YtofphdmebjcofaaDoorBuRef2
import Derived.Deep.RegionWith
import Derived.Laws.Concat
import Derived.Deep.RegionHeld3
import Derived.Deep.AppendLies
namespace Go.Proofs.YtofphdmebjcofaaDoor
open Go.ChangeShapes Go.WideShapes Go.ChangeAt Go.RowKit Go.Sort
namespace lawSorts

/-- What the append leaves. -/
structure Hung (ks : List Int) (i : Nat) (x : Int) (nm : ByteArray) (v : Value) (w1 : World) (v5 : Value) (w5 : World) : Prop where
  box : w5.heap[w1.heap.size]? = some (.cells #[v] 24 (0, 0))
  own : w5.ownsRow (w1.heap.size + 1) 27 2 v5 (i + 1) (flatT (its ks i) ++ [.int .i64 x, .string nm])
  below : Below w1.heap.size w1 w5
theorem cell_box {w : World} {g : Nat} {v : Value} {t : TypeId} (h : w.heap[g]? = some (.cells #[v] t (0, 0))) : w.cell? ⟨g, 0, none⟩ = some v := by simp [World.cell?, h]
theorem free_box {w : World} {g : Nat} {v : Value} {t : TypeId} (h : w.heap[g]? = some (.cells #[v] t (0, 0))) : w.frozen? ⟨g, 0, none⟩ = false := by simp [World.frozen?, h]

theorem new_two_t (W : World) (a b : Value) : ∀ j u, [a, b][j]? = some u → (W.alloc (.cells #[a, b] 27)).cell? ((⟨W.heap.size, 0, none⟩ : Addr).add j) = some u :=
  World.news_of_block (cs := #[a, b]) (t := 27) (fr := (0, 0)) (heap_alloc_new W _)

theorem name_size (i : Nat) (h : i ≤ 2000000) : ((⟨(Lib.itoa (i : Int)).toArray⟩ : ByteArray).size : Int) ≤ 100 := by
  have := Lib.itoa_length_le (i : Int) (by omega) (by omega)
  simp [ByteArray.size]
  omega

theorem run_name (W : World) (nm : ByteArray) (h : (nm.size : Int) ≤ 100) : (Op.stringOp .add ⟨#[35]⟩ nm).run Tryd.prog W = .ok (.string ((⟨#[35]⟩ : ByteArray) ++ nm)) W := by
  have ha : (((⟨#[35]⟩ : ByteArray).size : Nat) : Int) ≤ 8388608 := by decide
  have hb : (nm.size : Int) ≤ 8388608 := by omega
  simp [run_string_add, *]

set_option maxRecDepth 100000 in
set_option maxHeartbeats 32000000 in
theorem walk (ao : Option Addr) (n ca : Nat) (zs : List Int) (most : Int) (w : World) (hr : IsRow .i64 8 w ao n ca zs) (_ : (Lit.int .i64 most).wf = true) (hu : n ≤ 1048576) (ht : Tab w) :
    Calls Tryd.prog 3 #[.slice ao n ca, .int .i64 most] w fun e w' => e = .returned (.bool true) ∧ Below w.heap.size w w' := by
  obtain ⟨i0, hi, hz0, hz1, hz2⟩ := info_parts Tryd.infoItem
  have HL := Nu.hid hr.lst
  have HT := Nu.hid ht
  clear hr ht
  obtain ⟨ks, hks⟩ : ∃ ks, zs.take n = ks := ⟨_, rfl⟩
  rw [hks] at HL
  have HLEN := Nu.hid HL.out.len
  clear hks
  go_enter Tryd.func3, Tryd.ntmps3
  go_wp2_with (go_at_call 4; refine (wakes_any _).mono ?_; rintro e w1 ⟨rfl, hb1⟩; have HB1 := Nu.hid hb1; clear hb1; refine Hid.out ?_)
  refine Nu.hid ?_
  have HBX : Hid (Below w1.heap.size w1 (w1.alloc (.cells #[.slice none 0 0] 24))) := (Below.refl _ _).alloc (Nat.le_refl _) _
  have HNEW : Hid ((w1.alloc (.cells #[.slice none 0 0] 24)).heap[w1.heap.size]? = some (.cells #[.slice none 0 0] 24 (0, 0))) := heap_alloc_new w1 _
  go_wp2
  go_loopw [6] (fun cv wr => ∃ (i : Nat) (v : Value), i ≤ n ∧ cv = .int .i64 i ∧ wr.heap[w1.heap.size]? = some (.cells #[v] 24 (0, 0)) ∧ OwnT wr (w1.heap.size + 1) v (its ks i) ∧ Below w1.heap.size w1 wr) (fun cv _ => n - (intOf cv).toNat)
  case atStart => exact ⟨0, _, Nat.zero_le _, rfl, HNEW.out, OwnT.nil _ _, HBX.out⟩
  case round =>
    obtain ⟨i, v, hin, rfl, hbox, hown, hb⟩ := hrel
    have HBOX := Nu.hid hbox
    have HOWN := Nu.hid hown
    have HB := Nu.hid hb
    have HBW := Nu.hid (HB1.out.trans (hb.mono HB1.out.size))
    have hsz := lt_of_block hbox
    by_cases hlt : i < n
    · have k0 : (0 : Int) ≤ (i : Int) := by omega
      have k1 : (i : Int) < (n : Int) := by omega
      obtain ⟨b, o, hao, c0⟩ := (HL.out.later HBW.out).ints i _ (Bu.getD_at (by rw [HLEN.out]; exact hlt))
      have hblt := block_lt_of_cell c0
      have HSUCC := Nu.hid (its_succ ks i)
      have cb : wr.cell? ⟨w1.heap.size, 0, none⟩ = some v := by simp [World.cell?, hbox]
      have hbw : b < w.heap.size := by
        obtain ⟨b', o', e', c'⟩ := HL.out.ints i _ (Bu.getD_at (by rw [HLEN.out]; exact hlt))
        rw [hao] at e'
        cases e'
        exact block_lt_of_cell c'
      have HITO : Hid (∀ V, Below wr.heap.size wr V → Calls Tryd.prog 5 #[.int .i64 (i : Int)] V fun e w' => e = .returned (.string ⟨(Lib.itoa (i : Int)).toArray⟩) ∧ Below V.heap.size V w') := fun V hV => itoa_any i (by omega) V (HT.out.below (HBW.out.trans (hV.mono HBW.out.size)))
      have HCELLS : Hid (∀ V, Below wr.heap.size wr V → V.cell? ⟨w1.heap.size, 0, none⟩ = some v ∧ V.cell? ⟨b, o + i, none⟩ = some (.int .i64 (ks.getD i 0)) ∧ V.frozen? ⟨w1.heap.size, 0, none⟩ = false) := fun V hV =>
        ⟨(hV.cell (p := ⟨w1.heap.size, 0, none⟩) hsz).trans cb, (hV.cell (p := ⟨b, o + i, none⟩) hblt).trans c0, by simp [World.frozen?, (hV.block w1.heap.size hsz).trans HBOX.out]⟩
      obtain ⟨x, hx⟩ : ∃ x, ks.getD i 0 = x := ⟨_, rfl⟩
      obtain ⟨nm, hnm⟩ : ∃ nm : ByteArray, (⟨(Lib.itoa (i : Int)).toArray⟩ : ByteArray) = nm := ⟨_, rfl⟩
      rw [hx] at c0 HCELLS HSUCC
      rw [hnm] at HITO
      have HNM := Nu.hid hnm
      have hadd : ∀ W, (Op.stringOp .add ⟨#[35]⟩ nm).run Tryd.prog W = .ok (.string ((⟨#[35]⟩ : ByteArray) ++ nm)) W := fun W => run_name W nm (by rw [← hnm]; exact name_size i (by omega))
      have hbd : Below wr.heap.size wr wr.drew := (Below.refl _ _).drew
      have HKEEP : Hid (∀ (V : World) (u : Value), V.cell? ⟨b, o + i, none⟩ = some (.int .i64 x) → (V.setCell ⟨w1.heap.size, 0, none⟩ u).cell? ⟨b, o + i, none⟩ = some (.int .i64 x)) := fun V u h => by
        rw [← h]
        simp only [World.cell?]
        rw [heap_setCell_other V ⟨w1.heap.size, 0, none⟩ b u (by have := HB1.out.size; show b ≠ w1.heap.size; omega)]
      have HOWNV : Hid (∀ V, Below wr.heap.size wr V → (V.alloc (.cells #[.int .i64 x, .string ((⟨#[35]⟩ : ByteArray) ++ nm)] 27)).ownsRow (w1.heap.size + 1) 27 2 v i (flatT (its ks i))) := fun V hV => by
        have := (HOWN.out.later hV).later ((Below.refl _ _).alloc (Nat.le_refl _) (.cells #[.int .i64 x, .string ((⟨#[35]⟩ : ByteArray) ++ nm)] 27))
        unfold OwnT at this
        rw [its_length] at this
        exact this
      have HAFT : Hid (∀ V w5, Below wr.heap.size wr V → (V.alloc (.cells #[.int .i64 x, .string ((⟨#[35]⟩ : ByteArray) ++ nm)] 27)).grownBy w5 v.ownBlock → w5.heap[w1.heap.size]? = some (.cells #[v] 24 (0, 0)) ∧ w5.cell? ⟨b, o + i, none⟩ = some (.int .i64 x) ∧ Below w1.heap.size w1 w5) := fun V w5 hV hg => by
        have hVs := hV.size
        have hblk : ∀ k, k < wr.heap.size → v.ownBlock ≠ some k → w5.heap[k]? = wr.heap[k]? := fun k hk hne => by
          rw [hg.block k (by simp; omega) (fun e => hne e.symm), Below.heap_alloc V _ k (by omega)]
          exact hV.block k hk
        have hvo : ∀ k, v.ownBlock = some k → w1.heap.size + 1 ≤ k := fun k hk => (World.ownsRow.lt HOWN.out k hk).1
        refine ⟨(hblk _ hsz (fun e => by have := hvo _ e; omega)).trans HBOX.out, ?_, ?_⟩
        · rw [← (HCELLS.out wr (Below.refl _ _)).2.1]
          simp only [World.cell?]
          rw [hblk b hblt (fun e => by have := hvo _ e; have := HB1.out.size; omega)]
        · exact (HB.out.trans ((hV.mono HB.out.size).alloc (Nat.le_trans HB.out.size hVs) _)).grown hg (by simp; have := HB.out.size; omega) (fun k hk => by have := hvo k hk; omega)
      have HAPP : Hid (∀ V, Below wr.heap.size wr V → ∃ v5 w5, (Builtin.append_ #[24, 24] 24 #[v, .slice (some ⟨V.heap.size, 0, none⟩) 1 1]).run Tryd.prog (V.alloc (.cells #[.int .i64 x, .string ((⟨#[35]⟩ : ByteArray) ++ nm)] 27)) = .ok v5 w5 ∧ Hung ks i x ((⟨#[35]⟩ : ByteArray) ++ nm) v w1 v5 w5) := fun V hV => by
        have hVs := hV.size
        have hws := HB.out.size
        obtain ⟨v5, w5, h1, h2, h3, -⟩ := run_append_own (P := Tryd.prog) (V.alloc (.cells #[.int .i64 x, .string ((⟨#[35]⟩ : ByteArray) ++ nm)] 27)) (w1.heap.size + 1) 24 24 27 i0 (.agg #[.int .i64 0, .string ByteArray.empty]) 2 24 Tryd.underlying24 hi hz0 hz1 hz2 rfl (by decide) v i (flatT (its ks i)) (HOWNV.out V hV) ⟨V.heap.size, 0, none⟩ 1 1 [.int .i64 x, .string ((⟨#[35]⟩ : ByteArray) ++ nm)] rfl (new_two_t _ _ _) (by simp [Value.oneCell']) (by unfold maxLen; omega) (by omega) (by simp; omega)
        obtain ⟨g1, g2, g3⟩ := HAFT.out V w5 hV h3
        exact ⟨v5, w5, h1, ⟨g1, h2, g3⟩⟩
      have HLAST : Hid (∀ (g5 c5 : Nat) (w5 : World), w5.ownsRow (w1.heap.size + 1) 27 2 (.slice (some ⟨g5, 0, none⟩) (i + 1) c5) (i + 1) (flatT (its ks i) ++ [.int .i64 x, .string ((⟨#[35]⟩ : ByteArray) ++ nm)]) → (w5.heap[w1.heap.size]? = some (.cells #[v] 24 (0, 0)) ∧ w5.cell? ⟨b, o + i, none⟩ = some (.int .i64 x) ∧ Below w1.heap.size w1 w5) → (w5.setCell ⟨w1.heap.size, 0, none⟩ (.slice (some ⟨g5, 0, none⟩) (i + 1) c5)).heap[w1.heap.size]? = some (.cells #[.slice (some ⟨g5, 0, none⟩) (i + 1) c5] 24 (0, 0)) ∧ OwnT (w5.setCell ⟨w1.heap.size, 0, none⟩ (.slice (some ⟨g5, 0, none⟩) (i + 1) c5)) (w1.heap.size + 1) (.slice (some ⟨g5, 0, none⟩) (i + 1) c5) (its ks (i + 1)) ∧ Below w1.heap.size w1 (w5.setCell ⟨w1.heap.size, 0, none⟩ (.slice (some ⟨g5, 0, none⟩) (i + 1) c5))) := fun g5 c5 w5 ho hf => by
        refine ⟨?_, ?_, hf.2.2.setCell (p := ⟨w1.heap.size, 0, none⟩) (Nat.le_refl _) _⟩
        · rw [heap_setCell_same w5 w1.heap.size 0 _ _ _ hf.1]
          rfl
        · have h1 : OwnT w5 (w1.heap.size + 1) (.slice (some ⟨g5, 0, none⟩) (i + 1) c5) (its ks (i + 1)) := by
            unfold OwnT
            rw [its_length, HSUCC.out, flatT_snoc]
            have e : nameOf i = (⟨#[35]⟩ : ByteArray) ++ nm := by unfold nameOf; rw [HNM.out]
            rw [e]
            exact ho
          refine h1.same fun g hg _ => heap_setCell_other w5 ⟨w1.heap.size, 0, none⟩ g _ ?_
          have := (World.ownsRow.lt ho g hg).1
          show g ≠ w1.heap.size
          omega
      have HCELLA : Hid (∀ V, Below wr.heap.size wr V → (V.alloc (.cells #[.int .i64 x, .string ((⟨#[35]⟩ : ByteArray) ++ nm)] 27)).cell? ⟨w1.heap.size, 0, none⟩ = some v ∧ (V.alloc (.cells #[.int .i64 x, .string ((⟨#[35]⟩ : ByteArray) ++ nm)] 27)).cell? ⟨b, o + i, none⟩ = some (.int .i64 x) ∧ (V.alloc (.cells #[.int .i64 x, .string ((⟨#[35]⟩ : ByteArray) ++ nm)] 27)).frozen? ⟨w1.heap.size, 0, none⟩ = false) := fun V hV => HCELLS.out _ (hV.alloc hV.size _)
      subst hao
      clear hbox hown hb hx hnm
      go_wp2_with fail
      refine wp_region_any (by kernel_rfl) ?_
      try (change wpAny _ _ _ _ _ _ _ (World.drew _))
      refine wpAny_take (i := 1) (v := ?_) rfl (by kernel_rfl) (by kernel_rfl) (by kernel_rfl) (fun _ _ _ h => h) (Or.inl ⟨by rfl, ?_⟩) ?_
      rotate_left 1
      · intro W; go_simp; try with_reducible rfl
      refine wpAny_take (i := 2) (v := ?_) rfl (by kernel_rfl) (by kernel_rfl) (by kernel_rfl) (fun _ _ _ h => h) (Or.inl ⟨by rfl, ?_⟩) ?_
      rotate_left 1
      · intro W; go_simp; try with_reducible rfl
      refine wpAny_take (i := 3) (v := ?_) rfl (by kernel_rfl) (by kernel_rfl) (by kernel_rfl) (fun _ _ _ h => h) (Or.inl ⟨by rfl, ?_⟩) ?_
      rotate_left 1
      · intro W; go_simp; try with_reducible rfl
      refine wpAny_take (i := 5) (v := ?_) rfl (by kernel_rfl) (by kernel_rfl) (by kernel_rfl) (fun _ _ _ h => h) (Or.inl ⟨by rfl, ?_⟩) ?_
      rotate_left 1
      · intro W; go_simp; try with_reducible rfl
      refine wpAny_ready (rs := [0, 4, 6]) (by kernel_rfl) (by simp) ?_
      refine AllReady.cons rfl (fun K hK => ?_) ?_
      · skip
        go_simp
        refine hK _ _ ?_
        clear hK K
        refine wpAny_ready (rs := [4, 6]) (by kernel_rfl) (by simp) ?_
        refine AllReady.cons rfl (fun K hK => ?_) ?_
        · skip
          go_simp
          refine hK _ _ ?_
          clear hK K
          refine wpAny_ready (rs := [6]) (by kernel_rfl) (by simp) ?_
          refine AllReady.cons rfl (fun K hK => ?_) ?_
          · skip
            go_simp
            go_wp2_with (go_at_call 5; refine (HITO.out _ (by first | exact hbd | exact Below.refl _ _)).mono ?_; rintro e V1 ⟨rfl, hv1⟩; have hb1 : Below wr.heap.size wr V1 := Below.trans (by first | exact hbd | exact Below.refl _ _) (hv1.mono (Nat.le_refl _)); obtain ⟨y1, y2, y3⟩ := HCELLS.out V1 hb1; obtain ⟨q1, q2, q3⟩ := HCELLA.out V1 hb1)
            refine wpAny_take (i := 7) (v := ?_) rfl (by kernel_rfl) (by kernel_rfl) (by kernel_rfl) (fun _ _ _ h => h) (Or.inl ⟨by rfl, ?_⟩) ?_
            rotate_left 1
            · intro W; go_simp; try with_reducible rfl
            refine wpAny_take (i := 8) (v := ?_) rfl (by kernel_rfl) (by kernel_rfl) (by kernel_rfl) (fun _ _ _ h => h) (Or.inl ⟨by rfl, ?_⟩) ?_
            rotate_left 1
            · intro W; go_simp; try with_reducible rfl
            refine wpAny_ready (rs := [9]) (by kernel_rfl) (by simp) ?_
            refine AllReady.cons rfl (fun K hK => ?_) ?_
            · skip
              go_simp
              refine hK _ _ ?_
              clear hK K
              refine wpAny_ready (rs := [10]) (by kernel_rfl) (by simp) ?_
              refine AllReady.cons rfl (fun K hK => ?_) ?_
              · skip
                rw [if_pos (by rfl)]
                refine wp_append_own _ _ _ 24 (by rfl) (w1.heap.size + 1) 27 i0 (.agg #[.int .i64 0, .string ByteArray.empty]) 2 24 Tryd.underlying24 hi hz0 hz1 hz2 rfl (by decide) v i (flatT (its ks i)) (by rfl) (HOWNV.out V1 hb1) ⟨V1.heap.size, 0, none⟩ 1 1 [.int .i64 x, .string ((⟨#[35]⟩ : ByteArray) ++ nm)] (by rfl) rfl (new_two_t _ _ _) (by simp [Value.oneCell']) (by unfold maxLen; omega) (by omega) (by have := hb1.size; simp; omega) ?_
                intro v5 w5 ho5 hg5 _
                obtain ⟨g5, c5, hv5⟩ := own_succ ho5
                subst hv5
                have hfin5 := HAFT.out V1 w5 hb1 hg5
                have d5 := cell_box hfin5.1
                have f5 := free_box hfin5.1
                refine hK _ _ ?_
                clear hK K
                refine wpAny_ready (rs := [11]) (by kernel_rfl) (by simp) ?_
                refine AllReady.cons rfl (fun K hK => ?_) ?_
                · skip
                  go_simp
                  refine hK _ _ ?_
                  clear hK K
                  refine wpAny_done (by kernel_rfl) ?_ _
                  obtain ⟨e1, e2, e3⟩ := HLAST.out _ _ _ ho5 hfin5
                  clear ho5 hfin5 hg5 d5 f5 y1 y2 y3 q1 q2 q3
                  go_wp2
                  go_roundw
                  case rel => exact ⟨i + 1, _, by omega, by go_num, e1, e2, e3⟩
                  case measure => simp [intOf]; omega
                exact AllReady.nil
              exact AllReady.nil
            exact AllReady.nil
          exact AllReady.nil
        refine AllReady.cons rfl (fun K hK => ?_) ?_
        · skip
          go_simp
          go_wp2_with (go_at_call 5; refine (HITO.out _ (by first | exact hbd | exact Below.refl _ _)).mono ?_; rintro e V1 ⟨rfl, hv1⟩; have hb1 : Below wr.heap.size wr V1 := Below.trans (by first | exact hbd | exact Below.refl _ _) (hv1.mono (Nat.le_refl _)); obtain ⟨y1, y2, y3⟩ := HCELLS.out V1 hb1; obtain ⟨q1, q2, q3⟩ := HCELLA.out V1 hb1)
          refine wpAny_take (i := 7) (v := ?_) rfl (by kernel_rfl) (by kernel_rfl) (by kernel_rfl) (fun _ _ _ h => h) (Or.inl ⟨by rfl, ?_⟩) ?_
          rotate_left 1
          · intro W; go_simp; try with_reducible rfl
          refine wpAny_ready (rs := [4]) (by kernel_rfl) (by simp) ?_
          refine AllReady.cons rfl (fun K hK => ?_) ?_
          · skip
            go_simp
            refine hK _ _ ?_
            clear hK K
            refine wpAny_take (i := 8) (v := ?_) rfl (by kernel_rfl) (by kernel_rfl) (by kernel_rfl) (fun _ _ _ h => h) (Or.inl ⟨by rfl, ?_⟩) ?_
            rotate_left 1
            · intro W; go_simp; try with_reducible rfl
            refine wpAny_ready (rs := [9]) (by kernel_rfl) (by simp) ?_
            refine AllReady.cons rfl (fun K hK => ?_) ?_
            · skip
              go_simp
              refine hK _ _ ?_
              clear hK K
              refine wpAny_ready (rs := [10]) (by kernel_rfl) (by simp) ?_
              refine AllReady.cons rfl (fun K hK => ?_) ?_
              · skip
                rw [if_pos (by rfl)]
                refine wp_append_own _ _ _ 24 (by rfl) (w1.heap.size + 1) 27 i0 (.agg #[.int .i64 0, .string ByteArray.empty]) 2 24 Tryd.underlying24 hi hz0 hz1 hz2 rfl (by decide) v i (flatT (its ks i)) (by rfl) (HOWNV.out V1 hb1) ⟨V1.heap.size, 0, none⟩ 1 1 [.int .i64 x, .string ((⟨#[35]⟩ : ByteArray) ++ nm)] (by rfl) rfl (new_two_t _ _ _) (by simp [Value.oneCell']) (by unfold maxLen; omega) (by omega) (by have := hb1.size; simp; omega) ?_
                intro v5 w5 ho5 hg5 _
                obtain ⟨g5, c5, hv5⟩ := own_succ ho5
                subst hv5
                have hfin5 := HAFT.out V1 w5 hb1 hg5
                have d5 := cell_box hfin5.1
                have f5 := free_box hfin5.1
                refine hK _ _ ?_
                clear hK K
                refine wpAny_ready (rs := [11]) (by kernel_rfl) (by simp) ?_
                refine AllReady.cons rfl (fun K hK => ?_) ?_
                · skip
                  go_simp
                  refine hK _ _ ?_
                  clear hK K
                  refine wpAny_done (by kernel_rfl) ?_ _
                  obtain ⟨e1, e2, e3⟩ := HLAST.out _ _ _ ho5 hfin5
                  clear ho5 hfin5 hg5 d5 f5 y1 y2 y3 q1 q2 q3
                  go_wp2
                  go_roundw
                  case rel => exact ⟨i + 1, _, by omega, by go_num, e1, e2, e3⟩
                  case measure => simp [intOf]; omega
                exact AllReady.nil
              exact AllReady.nil
            exact AllReady.nil
          exact AllReady.nil
        exact AllReady.nil
      refine AllReady.cons rfl (fun K hK => ?_) ?_
      · skip
        go_simp
        refine hK _ _ ?_
        clear hK K
        refine wpAny_ready (rs := [0, 6]) (by kernel_rfl) (by simp) ?_
        refine AllReady.cons rfl (fun K hK => ?_) ?_
        · skip
          go_simp
          refine hK _ _ ?_
          clear hK K
          refine wpAny_ready (rs := [6]) (by kernel_rfl) (by simp) ?_
          refine AllReady.cons rfl (fun K hK => ?_) ?_
          · skip
            go_simp
            go_wp2_with (go_at_call 5; refine (HITO.out _ (by first | exact hbd | exact Below.refl _ _)).mono ?_; rintro e V1 ⟨rfl, hv1⟩; have hb1 : Below wr.heap.size wr V1 := Below.trans (by first | exact hbd | exact Below.refl _ _) (hv1.mono (Nat.le_refl _)); obtain ⟨y1, y2, y3⟩ := HCELLS.out V1 hb1; obtain ⟨q1, q2, q3⟩ := HCELLA.out V1 hb1)
            refine wpAny_take (i := 7) (v := ?_) rfl (by kernel_rfl) (by kernel_rfl) (by kernel_rfl) (fun _ _ _ h => h) (Or.inl ⟨by rfl, ?_⟩) ?_
            rotate_left 1
            · intro W; go_simp; try with_reducible rfl
            refine wpAny_take (i := 8) (v := ?_) rfl (by kernel_rfl) (by kernel_rfl) (by kernel_rfl) (fun _ _ _ h => h) (Or.inl ⟨by rfl, ?_⟩) ?_
            rotate_left 1
            · intro W; go_simp; try with_reducible rfl
            refine wpAny_ready (rs := [9]) (by kernel_rfl) (by simp) ?_
            refine AllReady.cons rfl (fun K hK => ?_) ?_
            · skip
              go_simp
              refine hK _ _ ?_
              clear hK K
              refine wpAny_ready (rs := [10]) (by kernel_rfl) (by simp) ?_
              refine AllReady.cons rfl (fun K hK => ?_) ?_
              · skip
                rw [if_pos (by rfl)]
                refine wp_append_own _ _ _ 24 (by rfl) (w1.heap.size + 1) 27 i0 (.agg #[.int .i64 0, .string ByteArray.empty]) 2 24 Tryd.underlying24 hi hz0 hz1 hz2 rfl (by decide) v i (flatT (its ks i)) (by rfl) (HOWNV.out V1 hb1) ⟨V1.heap.size, 0, none⟩ 1 1 [.int .i64 x, .string ((⟨#[35]⟩ : ByteArray) ++ nm)] (by rfl) rfl (new_two_t _ _ _) (by simp [Value.oneCell']) (by unfold maxLen; omega) (by omega) (by have := hb1.size; simp; omega) ?_
                intro v5 w5 ho5 hg5 _
                obtain ⟨g5, c5, hv5⟩ := own_succ ho5
                subst hv5
                have hfin5 := HAFT.out V1 w5 hb1 hg5
                have d5 := cell_box hfin5.1
                have f5 := free_box hfin5.1
                refine hK _ _ ?_
                clear hK K
                refine wpAny_ready (rs := [11]) (by kernel_rfl) (by simp) ?_
                refine AllReady.cons rfl (fun K hK => ?_) ?_
                · skip
                  go_simp
                  refine hK _ _ ?_
                  clear hK K
                  refine wpAny_done (by kernel_rfl) ?_ _
                  obtain ⟨e1, e2, e3⟩ := HLAST.out _ _ _ ho5 hfin5
                  clear ho5 hfin5 hg5 d5 f5 y1 y2 y3 q1 q2 q3
                  go_wp2
                  go_roundw
                  case rel => exact ⟨i + 1, _, by omega, by go_num, e1, e2, e3⟩
                  case measure => simp [intOf]; omega
                exact AllReady.nil
              exact AllReady.nil
            exact AllReady.nil
          exact AllReady.nil
        refine AllReady.cons rfl (fun K hK => ?_) ?_
        · skip
          go_simp
          go_wp2_with (go_at_call 5; refine (HITO.out _ (by first | exact hbd | exact Below.refl _ _)).mono ?_; rintro e V1 ⟨rfl, hv1⟩; have hb1 : Below wr.heap.size wr V1 := Below.trans (by first | exact hbd | exact Below.refl _ _) (hv1.mono (Nat.le_refl _)); obtain ⟨y1, y2, y3⟩ := HCELLS.out V1 hb1; obtain ⟨q1, q2, q3⟩ := HCELLA.out V1 hb1)
          refine wpAny_take (i := 7) (v := ?_) rfl (by kernel_rfl) (by kernel_rfl) (by kernel_rfl) (fun _ _ _ h => h) (Or.inl ⟨by rfl, ?_⟩) ?_
          rotate_left 1
          · intro W; go_simp; try with_reducible rfl
          refine wpAny_take (i := 8) (v := ?_) rfl (by kernel_rfl) (by kernel_rfl) (by kernel_rfl) (fun _ _ _ h => h) (Or.inl ⟨by rfl, ?_⟩) ?_
          rotate_left 1
          · intro W; go_simp; try with_reducible rfl
          refine wpAny_ready (rs := [0, 9]) (by kernel_rfl) (by simp) ?_
          refine AllReady.cons rfl (fun K hK => ?_) ?_
          · skip
            go_simp
            refine hK _ _ ?_
            clear hK K
            refine wpAny_ready (rs := [9]) (by kernel_rfl) (by simp) ?_
            refine AllReady.cons rfl (fun K hK => ?_) ?_
            · skip
              go_simp
              refine hK _ _ ?_
              clear hK K
              refine wpAny_ready (rs := [10]) (by kernel_rfl) (by simp) ?_
              refine AllReady.cons rfl (fun K hK => ?_) ?_
              · skip
                rw [if_pos (by rfl)]
                refine wp_append_own _ _ _ 24 (by rfl) (w1.heap.size + 1) 27 i0 (.agg #[.int .i64 0, .string ByteArray.empty]) 2 24 Tryd.underlying24 hi hz0 hz1 hz2 rfl (by decide) v i (flatT (its ks i)) (by rfl) (HOWNV.out V1 hb1) ⟨V1.heap.size, 0, none⟩ 1 1 [.int .i64 x, .string ((⟨#[35]⟩ : ByteArray) ++ nm)] (by rfl) rfl (new_two_t _ _ _) (by simp [Value.oneCell']) (by unfold maxLen; omega) (by omega) (by have := hb1.size; simp; omega) ?_
                intro v5 w5 ho5 hg5 _
                obtain ⟨g5, c5, hv5⟩ := own_succ ho5
                subst hv5
                have hfin5 := HAFT.out V1 w5 hb1 hg5
                have d5 := cell_box hfin5.1
                have f5 := free_box hfin5.1
                refine hK _ _ ?_
                clear hK K
                refine wpAny_ready (rs := [11]) (by kernel_rfl) (by simp) ?_
                refine AllReady.cons rfl (fun K hK => ?_) ?_
                · skip
                  go_simp
                  refine hK _ _ ?_
                  clear hK K
                  refine wpAny_done (by kernel_rfl) ?_ _
                  obtain ⟨e1, e2, e3⟩ := HLAST.out _ _ _ ho5 hfin5
                  clear ho5 hfin5 hg5 d5 f5 y1 y2 y3 q1 q2 q3
                  go_wp2
                  go_roundw
                  case rel => exact ⟨i + 1, _, by omega, by go_num, e1, e2, e3⟩
                  case measure => simp [intOf]; omega
                exact AllReady.nil
              exact AllReady.nil
            exact AllReady.nil
          refine AllReady.cons rfl (fun K hK => ?_) ?_
          · skip
            go_simp
            refine hK _ _ ?_
            clear hK K
            refine wpAny_ready (rs := [0]) (by kernel_rfl) (by simp) ?_
            refine AllReady.cons rfl (fun K hK => ?_) ?_
            · skip
              go_simp
              refine hK _ _ ?_
              clear hK K
              refine wpAny_ready (rs := [10]) (by kernel_rfl) (by simp) ?_
              refine AllReady.cons rfl (fun K hK => ?_) ?_
              · skip
                rw [if_pos (by rfl)]
                refine wp_append_own _ _ _ 24 (by rfl) (w1.heap.size + 1) 27 i0 (.agg #[.int .i64 0, .string ByteArray.empty]) 2 24 Tryd.underlying24 hi hz0 hz1 hz2 rfl (by decide) v i (flatT (its ks i)) (by rfl) (HOWNV.out V1 hb1) ⟨V1.heap.size, 0, none⟩ 1 1 [.int .i64 x, .string ((⟨#[35]⟩ : ByteArray) ++ nm)] (by rfl) rfl (new_two_t _ _ _) (by simp [Value.oneCell']) (by unfold maxLen; omega) (by omega) (by have := hb1.size; simp; omega) ?_
                intro v5 w5 ho5 hg5 _
                obtain ⟨g5, c5, hv5⟩ := own_succ ho5
                subst hv5
                have hfin5 := HAFT.out V1 w5 hb1 hg5
                have d5 := cell_box hfin5.1
                have f5 := free_box hfin5.1
                refine hK _ _ ?_
                clear hK K
                refine wpAny_ready (rs := [11]) (by kernel_rfl) (by simp) ?_
                refine AllReady.cons rfl (fun K hK => ?_) ?_
                · skip
                  go_simp
                  refine hK _ _ ?_
                  clear hK K
                  refine wpAny_done (by kernel_rfl) ?_ _
                  obtain ⟨e1, e2, e3⟩ := HLAST.out _ _ _ ho5 hfin5
                  clear ho5 hfin5 hg5 d5 f5 y1 y2 y3 q1 q2 q3
                  go_wp2
                  go_roundw
                  case rel => exact ⟨i + 1, _, by omega, by go_num, e1, e2, e3⟩
                  case measure => simp [intOf]; omega
                exact AllReady.nil
              exact AllReady.nil
            exact AllReady.nil
          exact AllReady.nil
        exact AllReady.nil
      refine AllReady.cons rfl (fun K hK => ?_) ?_
      · skip
        go_simp
        go_wp2_with (go_at_call 5; refine (HITO.out _ (by first | exact hbd | exact Below.refl _ _)).mono ?_; rintro e V1 ⟨rfl, hv1⟩; have hb1 : Below wr.heap.size wr V1 := Below.trans (by first | exact hbd | exact Below.refl _ _) (hv1.mono (Nat.le_refl _)); obtain ⟨y1, y2, y3⟩ := HCELLS.out V1 hb1; obtain ⟨q1, q2, q3⟩ := HCELLA.out V1 hb1)
        refine wpAny_take (i := 7) (v := ?_) rfl (by kernel_rfl) (by kernel_rfl) (by kernel_rfl) (fun _ _ _ h => h) (Or.inl ⟨by rfl, ?_⟩) ?_
        rotate_left 1
        · intro W; go_simp; try with_reducible rfl
        refine wpAny_ready (rs := [0, 4]) (by kernel_rfl) (by simp) ?_
        refine AllReady.cons rfl (fun K hK => ?_) ?_
        · skip
          go_simp
          refine hK _ _ ?_
          clear hK K
          refine wpAny_ready (rs := [4]) (by kernel_rfl) (by simp) ?_
          refine AllReady.cons rfl (fun K hK => ?_) ?_
          · skip
            go_simp
            refine hK _ _ ?_
            clear hK K
            refine wpAny_take (i := 8) (v := ?_) rfl (by kernel_rfl) (by kernel_rfl) (by kernel_rfl) (fun _ _ _ h => h) (Or.inl ⟨by rfl, ?_⟩) ?_
            rotate_left 1
            · intro W; go_simp; try with_reducible rfl
            refine wpAny_ready (rs := [9]) (by kernel_rfl) (by simp) ?_
            refine AllReady.cons rfl (fun K hK => ?_) ?_
            · skip
              go_simp
              refine hK _ _ ?_
              clear hK K
              refine wpAny_ready (rs := [10]) (by kernel_rfl) (by simp) ?_
              refine AllReady.cons rfl (fun K hK => ?_) ?_
              · skip
                rw [if_pos (by rfl)]
                refine wp_append_own _ _ _ 24 (by rfl) (w1.heap.size + 1) 27 i0 (.agg #[.int .i64 0, .string ByteArray.empty]) 2 24 Tryd.underlying24 hi hz0 hz1 hz2 rfl (by decide) v i (flatT (its ks i)) (by rfl) (HOWNV.out V1 hb1) ⟨V1.heap.size, 0, none⟩ 1 1 [.int .i64 x, .string ((⟨#[35]⟩ : ByteArray) ++ nm)] (by rfl) rfl (new_two_t _ _ _) (by simp [Value.oneCell']) (by unfold maxLen; omega) (by omega) (by have := hb1.size; simp; omega) ?_
                intro v5 w5 ho5 hg5 _
                obtain ⟨g5, c5, hv5⟩ := own_succ ho5
                subst hv5
                have hfin5 := HAFT.out V1 w5 hb1 hg5
                have d5 := cell_box hfin5.1
                have f5 := free_box hfin5.1
                refine hK _ _ ?_
                clear hK K
                refine wpAny_ready (rs := [11]) (by kernel_rfl) (by simp) ?_
                refine AllReady.cons rfl (fun K hK => ?_) ?_
                · skip
                  go_simp
                  refine hK _ _ ?_
                  clear hK K
                  refine wpAny_done (by kernel_rfl) ?_ _
                  obtain ⟨e1, e2, e3⟩ := HLAST.out _ _ _ ho5 hfin5
                  clear ho5 hfin5 hg5 d5 f5 y1 y2 y3 q1 q2 q3
                  go_wp2
                  go_roundw
                  case rel => exact ⟨i + 1, _, by omega, by go_num, e1, e2, e3⟩
                  case measure => simp [intOf]; omega
                exact AllReady.nil
              exact AllReady.nil
            exact AllReady.nil
          exact AllReady.nil
        refine AllReady.cons rfl (fun K hK => ?_) ?_
        · skip
          go_simp
          refine hK _ _ ?_
          clear hK K
          refine wpAny_take (i := 8) (v := ?_) rfl (by kernel_rfl) (by kernel_rfl) (by kernel_rfl) (fun _ _ _ h => h) (Or.inl ⟨by rfl, ?_⟩) ?_
          rotate_left 1
          · intro W; go_simp; try with_reducible rfl
          refine wpAny_ready (rs := [0, 9]) (by kernel_rfl) (by simp) ?_
          refine AllReady.cons rfl (fun K hK => ?_) ?_
          · skip
            go_simp
            refine hK _ _ ?_
            clear hK K
            refine wpAny_ready (rs := [9]) (by kernel_rfl) (by simp) ?_
            refine AllReady.cons rfl (fun K hK => ?_) ?_
            · skip
              go_simp
              refine hK _ _ ?_
              clear hK K
              refine wpAny_ready (rs := [10]) (by kernel_rfl) (by simp) ?_
              refine AllReady.cons rfl (fun K hK => ?_) ?_
              · skip
                rw [if_pos (by rfl)]
                refine wp_append_own _ _ _ 24 (by rfl) (w1.heap.size + 1) 27 i0 (.agg #[.int .i64 0, .string ByteArray.empty]) 2 24 Tryd.underlying24 hi hz0 hz1 hz2 rfl (by decide) v i (flatT (its ks i)) (by rfl) (HOWNV.out V1 hb1) ⟨V1.heap.size, 0, none⟩ 1 1 [.int .i64 x, .string ((⟨#[35]⟩ : ByteArray) ++ nm)] (by rfl) rfl (new_two_t _ _ _) (by simp [Value.oneCell']) (by unfold maxLen; omega) (by omega) (by have := hb1.size; simp; omega) ?_
                intro v5 w5 ho5 hg5 _
                obtain ⟨g5, c5, hv5⟩ := own_succ ho5
                subst hv5
                have hfin5 := HAFT.out V1 w5 hb1 hg5
                have d5 := cell_box hfin5.1
                have f5 := free_box hfin5.1
                refine hK _ _ ?_
                clear hK K
                refine wpAny_ready (rs := [11]) (by kernel_rfl) (by simp) ?_
                refine AllReady.cons rfl (fun K hK => ?_) ?_
                · skip
                  go_simp
                  refine hK _ _ ?_
                  clear hK K
                  refine wpAny_done (by kernel_rfl) ?_ _
                  obtain ⟨e1, e2, e3⟩ := HLAST.out _ _ _ ho5 hfin5
                  clear ho5 hfin5 hg5 d5 f5 y1 y2 y3 q1 q2 q3
                  go_wp2
                  go_roundw
                  case rel => exact ⟨i + 1, _, by omega, by go_num, e1, e2, e3⟩
                  case measure => simp [intOf]; omega
                exact AllReady.nil
              exact AllReady.nil
            exact AllReady.nil
          refine AllReady.cons rfl (fun K hK => ?_) ?_
          · skip
            go_simp
            refine hK _ _ ?_
            clear hK K
            refine wpAny_ready (rs := [0]) (by kernel_rfl) (by simp) ?_
            refine AllReady.cons rfl (fun K hK => ?_) ?_
            · skip
              go_simp
              refine hK _ _ ?_
              clear hK K
              refine wpAny_ready (rs := [10]) (by kernel_rfl) (by simp) ?_
              refine AllReady.cons rfl (fun K hK => ?_) ?_
              · skip
                rw [if_pos (by rfl)]
                refine wp_append_own _ _ _ 24 (by rfl) (w1.heap.size + 1) 27 i0 (.agg #[.int .i64 0, .string ByteArray.empty]) 2 24 Tryd.underlying24 hi hz0 hz1 hz2 rfl (by decide) v i (flatT (its ks i)) (by rfl) (HOWNV.out V1 hb1) ⟨V1.heap.size, 0, none⟩ 1 1 [.int .i64 x, .string ((⟨#[35]⟩ : ByteArray) ++ nm)] (by rfl) rfl (new_two_t _ _ _) (by simp [Value.oneCell']) (by unfold maxLen; omega) (by omega) (by have := hb1.size; simp; omega) ?_
                intro v5 w5 ho5 hg5 _
                obtain ⟨g5, c5, hv5⟩ := own_succ ho5
                subst hv5
                have hfin5 := HAFT.out V1 w5 hb1 hg5
                have d5 := cell_box hfin5.1
                have f5 := free_box hfin5.1
                refine hK _ _ ?_
                clear hK K
                refine wpAny_ready (rs := [11]) (by kernel_rfl) (by simp) ?_
                refine AllReady.cons rfl (fun K hK => ?_) ?_
                · skip
                  go_simp
                  refine hK _ _ ?_
                  clear hK K
                  refine wpAny_done (by kernel_rfl) ?_ _
                  obtain ⟨e1, e2, e3⟩ := HLAST.out _ _ _ ho5 hfin5
                  clear ho5 hfin5 hg5 d5 f5 y1 y2 y3 q1 q2 q3
                  go_wp2
                  go_roundw
                  case rel => exact ⟨i + 1, _, by omega, by go_num, e1, e2, e3⟩
                  case measure => simp [intOf]; omega
                exact AllReady.nil
              exact AllReady.nil
            exact AllReady.nil
          exact AllReady.nil
        exact AllReady.nil
      exact AllReady.nil
    · have hd : ¬ ((i : Int) < (n : Int)) := by omega
      obtain rfl : i = n := by omega
      obtain ⟨io, ic, hve, hit, hnone, hblk⟩ := hown.form
      rw [its_length] at hve hnone
      subst hve
      -- the boxes of 'asked' and 'right'
      obtain ⟨W2, hW2⟩ : ∃ W2, W2 = (wr.alloc (.cells #[.int .i64 0] 3)).alloc (.cells #[.bool true] 4) := ⟨_, rfl⟩
      have hb2 : Below wr.heap.size wr W2 := by rw [hW2]; exact ((Below.refl _ _).alloc (Nat.le_refl _) _).alloc (by simp) _
      have hask : Ask (wr.heap.size + 1) wr.heap.size w1.heap.size io ic (its ks i) 0 W2 := by
        refine ⟨?_, ?_, ?_, hit.later hb2, ⟨by omega, by omega, by omega⟩, fun x hx => ?_⟩
        · rw [hW2]
          have := heap_alloc_new (wr.alloc (.cells #[.int .i64 0] 3)) (.cells #[.bool true] 4)
          rw [World.size_alloc] at this
          exact this
        · rw [hW2]
          exact (Below.heap_alloc _ _ wr.heap.size (by simp)).trans (heap_alloc_new wr _)
        · rw [its_length]
          exact (hb2.cell (p := ⟨w1.heap.size, 0, none⟩) hsz).trans (cell_box hbox)
        · have := (hblk x hx).2
          omega
      have hLT : LstT W2 io i ic (its ks i) := ⟨its_length ks i, hit.later hb2, hnone⟩
      have hkk : ks = (its ks i).map fun p => p.1 := by
        have := its_keys ks
        rw [HLEN.out] at this
        exact this
      have HSORT := Nu.hid (sortitem_any (wr.heap.size + 1) wr.heap.size w1.heap.size io ic (its ks i) most i ks W2 (by omega) hask hLT hkk)
      have HW2 := Nu.hid hW2
      have HBWA : Hid (Below w.heap.size w W2) := HBW.out.trans (hb2.mono HBW.out.size)
      have c2 : W2.cell? ⟨w1.heap.size, 0, none⟩ = some (.slice io i ic) := by
        have := hask.box
        rw [its_length] at this
        exact this
      have HITS := Nu.hid hit
      have HIO : Hid (∀ x, io = some x → x.block < wr.heap.size) := fun x hx => (hblk x hx).2
      have hwsz := HB.out.size
      have hw1sz := HB1.out.size
      subst hW2
      clear hbox hown hb hit hask hLT hkk hb2 hblk HW2
      obtain ⟨K, hK⟩ : ∃ K, K = wr.heap.size := ⟨_, rfl⟩
      have HFV : Hid (∀ W, Below w.heap.size w W → Calls Tryd.prog 8 #[.slice ao i ca, .int .i64 most] W fun e w' => e = .returned (.tuple #[.int .i64 (Bu.fault most ks), .int .i64 (Bu.seen most ks : Int)]) ∧ w' = W) := fun W hW => fault_any most ao ca i ks W (by omega) (HL.out.later hW)
      by_cases hf : Bu.fault most ks = 0
      · have HF := Nu.hid hf
        have HS2 := HSORT.out.mono (R' := fun e w' => ∃ (g : Nat) (S : List Item), e = .returned (.tuple #[.slice (some ⟨g, 0, none⟩) i i, .int .i64 0]) ∧ wr.heap.size ≤ g ∧ TR w' wr.heap.size g i i (flatT S) ∧ Bu.Sorted ks (its ks i) S ∧ Ask (wr.heap.size + 1) wr.heap.size w1.heap.size io ic (its ks i) (Bu.seen most ks) w' ∧ Below w.heap.size w w') (by
          rintro e w' ⟨⟨h1, _⟩ | ⟨_, g, S, h2, h3, h4, h5⟩, h6, h7⟩
          · exact absurd hf h1
          · rw [its_length] at h2 h4
            have hs3 : wr.heap.size ≤ g := by simp at h3; omega
            exact ⟨g, S, h2, hs3, row_lower h4 (by simp; omega), h5, h6, HBWA.out.trans (h7.below (by have := HBWA.out.size; simp at this ⊢; omega) (fun k hk => by omega))⟩)
        have HS3 := Nu.hid HS2
        have j2 : ((Bu.seen most ks : Int) != (Bu.seen most ks : Int)) = false := by simp
        obtain ⟨sn, hsn⟩ : ∃ sn, Bu.seen most ks = sn := ⟨_, rfl⟩
        rw [hsn] at HS3 j2 HFV
        rw [hf] at HFV
        have j3 : ((i : Int) != (i : Int)) = false := by simp
        have HRV : Hid (∀ W, Below w.heap.size w W → Calls Tryd.prog 9 #[.slice ao i ca, .int .i64 most] W fun e w' => ∃ v, e = .returned (.tuple #[v, .int .i64 0]) ∧ OwnZ w' W.heap.size v (Bu.ranks ks) ∧ Below W.heap.size W w') := fun W hW => (rranks_any most ao ca i ks W (by omega) (HL.out.later hW)).mono (by
          rintro e w' ⟨⟨h1, _⟩ | ⟨_, v, h2, h3⟩, hb⟩
          · exact absurd HF.out h1
          · exact ⟨v, h2, h3, hb⟩)
        clear HS2 HSORT hsn hf
        go_wp2_with (go_at_call 6; refine HS3.out.mono ?_; rintro e w3 ⟨g, S, rfl, hg, hT, hS, hask, hb3⟩; have HT3 := Nu.hid hT; have HSS := Nu.hid hS; have HASK3 := Nu.hid hask; have HB3 := Nu.hid hb3; have r3 := cell_box hask.right; have k3 := cell_box hask.asked; clear hT hS hask hb3; refine Hid.out ?_)
        refine Nu.hid ?_
        have HF3 := Nu.hid (HFV.out w3 HB3.out)
        have HR3 := Nu.hid (HRV.out w3 HB3.out)
        clear HS3 HFV HRV
        go_wp2_with (first
          | (go_at_call 8; refine HF3.out.mono ?_; rintro e w4 ⟨rfl, hw4⟩; obtain rfl := hw4.symm)
          | (go_at_call 9; refine HR3.out.mono ?_; rintro e w5 ⟨rv, rfl, hrv, hb5⟩; obtain ⟨ro, rc, hre, hrL, -⟩ := hrv.lst; rw [Bu.ranks_length, HLEN.out] at hre hrL; subst hre; have HRL := Nu.hid hrL; have HB5 := Nu.hid hb5; clear hrv hrL hb5; refine Hid.out ?_))
        refine Nu.hid ?_
        have HASK5 := Nu.hid (HASK3.out.later HB5.out)
        have HT5 := Nu.hid (row_same' HT3.out HB5.out)
        have HBE5 := Nu.hid (HB3.out.trans (HB5.out.mono HB3.out.size))
        have HL5 := Nu.hid (HL.out.later HBE5.out)
        clear HF3 HR3 HASK3 HT3 HB3 HB5 r3 k3 c2
        go_wp2
        go_loopw [15] (fun cv wx => ∃ k : Nat, k ≤ i ∧ cv = .int .i64 (k : Int) ∧ Below w5.heap.size w5 wx) (fun cv _ => i - (intOf cv).toNat)
        case atStart => exact ⟨0, Nat.zero_le _, rfl, Below.refl _ _⟩
        case round =>
          obtain ⟨k, hk, rfl, hb⟩ := hrel
          obtain ⟨wq, rfl⟩ : ∃ wq, wq = wr := ⟨wr, rfl⟩
          have HBx := Nu.hid hb
          by_cases hlk : k < i
          · have k0 : (0 : Int) ≤ (k : Int) := by omega
            have k1 : (k : Int) < (i : Int) := by omega
            have hkl : k < ks.length := by rw [HLEN.out]; exact hlk
            obtain ⟨rb, ro', hre, cr⟩ := (HRL.out.later hb).ints k _ (Bu.ranks_at hkl)
            have hrk := Bu.rk_lt hkl
            rw [HLEN.out] at hrk
            have hsk := HSS.out.put k hkl
            rw [its_at ks hlk] at hsk
            obtain ⟨f0, f1⟩ := flatT_at S _ _ hsk
            have hTx := row_same' HT5.out hb
            have cs0 := hTx.cell f0
            have cs1 := hTx.cell f1
            obtain ⟨b, o, hao, ck⟩ := (HL5.out.later hb).ints k _ (Bu.getD_at hkl)
            have haskx := HASK5.out.later hb
            have hbx := haskx.box
            rw [its_length] at hbx
            obtain ⟨ib, io', hio, ci0, ci1⟩ := haskx.items k _ (its_at ks hlk)
            dsimp only at cs0 cs1 ci0 ci1
            obtain ⟨rk, hrke⟩ : ∃ rk, Bu.rk ks k = rk := ⟨_, rfl⟩
            obtain ⟨x, hx⟩ : ∃ x, ks.getD k 0 = x := ⟨_, rfl⟩
            obtain ⟨nm, hnm⟩ : ∃ nm : ByteArray, (⟨(Lib.itoa (k : Int)).toArray⟩ : ByteArray) = nm := ⟨_, rfl⟩
            have hname : nameOf k = (⟨#[35]⟩ : ByteArray) ++ nm := by unfold nameOf; rw [hnm]
            rw [hrke] at cr hrk cs0 cs1
            rw [hx] at cs0 ck ci0
            rw [hname] at cs1 ci1
            have hadd : ∀ W, (Op.stringOp .add ⟨#[35]⟩ nm).run Tryd.prog W = .ok (.string ((⟨#[35]⟩ : ByteArray) ++ nm)) W := fun W => run_name W nm (by rw [← hnm]; exact name_size k (by omega))
            have heq := eqItem x ((⟨#[35]⟩ : ByteArray) ++ nm)
            have HITO : Hid (∀ V, Below wq.heap.size wq V → Calls Tryd.prog 5 #[.int .i64 (k : Int)] V fun e w' => e = .returned (.string nm) ∧ Below V.heap.size V w') := fun V hV => by
              have hBk := HBE5.out.trans (HBx.out.mono HBE5.out.size)
              have := itoa_any k (by omega) V (HT.out.below (hBk.trans (hV.mono hBk.size)))
              rw [hnm] at this
              exact this
            have HCC : Hid (∀ V, Below wq.heap.size wq V → V.cell? ⟨rb, ro' + k, none⟩ = some (.int .i64 (rk : Int)) ∧ V.cell? ⟨g, rk * 2, none⟩ = some (.int .i64 x) ∧ V.cell? ⟨g, rk * 2 + 1, none⟩ = some (.string ((⟨#[35]⟩ : ByteArray) ++ nm)) ∧ V.cell? ⟨b, o + k, none⟩ = some (.int .i64 x) ∧ V.cell? ⟨w1.heap.size, 0, none⟩ = some (.slice io i ic) ∧ V.cell? ⟨ib, io' + k * 2, none⟩ = some (.int .i64 x) ∧ V.cell? ⟨ib, io' + k * 2 + 1, none⟩ = some (.string ((⟨#[35]⟩ : ByteArray) ++ nm)) ∧ Below wq.heap.size wq V) := fun V hV =>
              ⟨(hV.cell (p := ⟨rb, ro' + k, none⟩) (block_lt_of_cell cr)).trans cr, (hV.cell (p := ⟨g, rk * 2, none⟩) (block_lt_of_cell cs0)).trans cs0, (hV.cell (p := ⟨g, rk * 2 + 1, none⟩) (block_lt_of_cell cs1)).trans cs1, (hV.cell (p := ⟨b, o + k, none⟩) (block_lt_of_cell ck)).trans ck, (hV.cell (p := ⟨w1.heap.size, 0, none⟩) (block_lt_of_cell hbx)).trans hbx, (hV.cell (p := ⟨ib, io' + k * 2, none⟩) (block_lt_of_cell ci0)).trans ci0, (hV.cell (p := ⟨ib, io' + k * 2 + 1, none⟩) (block_lt_of_cell ci1)).trans ci1, hV⟩
            have q0 : (0 : Int) ≤ (rk : Int) := by omega
            have q1 : (rk : Int) < (i : Int) := by omega
            subst hre
            subst hao
            rw [hio] at HCC ⊢
            have hbd : Below wq.heap.size wq wq.drew := (Below.refl _ _).drew
            clear hb hkl hsk f0 f1 hTx cs0 cs1 ck haskx hbx ci0 ci1 cr hrke hx hnm hname
            go_wp2_with fail
            go_region_held3 (fun V => V.cell? ⟨rb, ro' + k, none⟩ = some (.int .i64 (rk : Int)) ∧ V.cell? ⟨g, rk * 2, none⟩ = some (.int .i64 x) ∧ V.cell? ⟨g, rk * 2 + 1, none⟩ = some (.string ((⟨#[35]⟩ : ByteArray) ++ nm)) ∧ V.cell? ⟨b, o + k, none⟩ = some (.int .i64 x) ∧ V.cell? ⟨w1.heap.size, 0, none⟩ = some (.slice (some ⟨ib, io', none⟩) i ic) ∧ V.cell? ⟨ib, io' + k * 2, none⟩ = some (.int .i64 x) ∧ V.cell? ⟨ib, io' + k * 2 + 1, none⟩ = some (.string ((⟨#[35]⟩ : ByteArray) ++ nm)) ∧ Below wq.heap.size wq V)
              (first | exact HCC.out _ hbd | exact HCC.out _ (Below.refl _ _) | exact HCC.out _ (by assumption))
              ((go_at_call 5; refine (HITO.out _ (by first | assumption | exact hbd)).mono ?_; rintro e V1 ⟨rfl, hv1⟩; have hb1 : Below wq.heap.size wq V1 := Below.trans (by first | assumption | exact hbd) (hv1.mono (Below.size (by first | assumption | exact hbd)))))
            all_goals
              go_wp2
              go_roundw
              case rel => exact ⟨k + 1, by omega, by go_num, HBx.out.trans (Below.mono (by assumption) HBx.out.size)⟩
              case measure => simp [intOf]; omega
          · have hdk : ¬ ((k : Int) < (i : Int)) := by omega
            clear hb
            go_wp2
            go_ret
            exact ⟨rfl, HBE5.out.trans (HBx.out.mono HBE5.out.size)⟩
      · have HF := Nu.hid hf
        have HS2 := HSORT.out.mono (R' := fun e w' => e = .returned (.tuple #[.slice none 0 0, .int .i64 (Bu.fault most ks)]) ∧ Ask (wr.heap.size + 1) wr.heap.size w1.heap.size io ic (its ks i) (Bu.seen most ks) w' ∧ Below w.heap.size w w') (by
          rintro e w' ⟨⟨_, h1⟩ | ⟨h1, _⟩, h6, h7⟩
          · exact ⟨h1, h6, HBWA.out.trans (h7.below (by have := HBWA.out.size; simp at this ⊢; omega) (fun k hk => by omega))⟩
          · exact absurd h1 hf)
        have HS3 := Nu.hid HS2
        obtain ⟨sn, hsn⟩ : ∃ sn, Bu.seen most ks = sn := ⟨_, rfl⟩
        obtain ⟨q, hq⟩ : ∃ q, Bu.fault most ks = q := ⟨_, rfl⟩
        rw [hsn, hq] at HS3 HFV
        rw [hq] at hf
        have j0 : (q != 0) = true := by simp [hf]
        have j1 : (q != q) = false := by simp
        have j2 : ((sn : Int) != (sn : Int)) = false := by simp
        clear HS2 HSORT hsn hq HF
        go_wp2_with (go_at_call 6; refine HS3.out.mono ?_; rintro e w3 ⟨rfl, hask, hb3⟩; have HB3 := Nu.hid hb3; have r3 := cell_box hask.right; have k3 := cell_box hask.asked; clear hask hb3; refine Hid.out ?_)
        refine Nu.hid ?_
        have HF3 := Nu.hid (HFV.out w3 HB3.out)
        clear HS3 HFV
        go_wp2_with (go_at_call 8; refine HF3.out.mono ?_; rintro e w4 ⟨rfl, hw4⟩; obtain rfl := hw4.symm)
        go_ret
        exact ⟨rfl, HB3.out⟩

set_option maxRecDepth 100000 in
/-- What the walk gives, for every argument and every world that holds the tables. -/
theorem contract (H : Type) (enc : TypeId × Value → H) (W : World) (base : Nat) (args : Array Value) (ds gs : List (DataW H)) (before : List MemPlace)
    (hval : ∀ (j : Nat) t v, Tryd.f3.params[j]? = some t → args[j]? = some v → Value.okWide Tryd.prog W .any base t v)
    (hW : DataW.Whole enc Tryd.prog Tryd.f3.params.toList Rows.bucketSortsSpec.vars false W args.toList ds gs before)
    (hsz : (DataW.weightsEach Tryd.prog (Tryd.f3.params.toList ++ (Rows.OpenSpec.upto Rows.bucketSortsSpec).bare.plain.varTypes Tryd.prog) (ds ++ gs)).all (· ≤ reachBytes) = true)
    (hk : Rows.uptoSmall H (ds ++ gs) = true)
    (hL : laidMet Tryd.prog listed W) :
    Calls Tryd.prog 3 args W fun e W' => ∃ v, e = .returned v ∧ Rows.bucketSortsSpec.post enc Tryd.prog Tryd.f3 false true false false W args v W' := by
  have hW' := hW
  obtain ⟨p, q, hA0, hV, rfl, hfz, hnd⟩ := hW
  have hA : DataW.TrodAll enc Tryd.prog W 0 (fun _ => true) true Tryd.f3.params.toList args.toList ds p := hA0
  rw [Tryd.params3] at hA hval hsz
  obtain ⟨v0, vs0, d0, ds0, p0, q0, hargs, rfl, rfl, h0, r0⟩ := trodAll_cons hA
  obtain ⟨v1, vs1, d1, ds1, p1, q1, rfl, rfl, rfl, h1, r1⟩ := trodAll_cons r0
  obtain ⟨rfl, rfl, rfl⟩ := trodAll_nil r1
  obtain rfl : args = #[v0, v1] := by cases args; simp_all
  obtain ⟨rfl, rfl⟩ := trodVars_none hV
  obtain ⟨a0, len0, cap0, rfl⟩ := okWide_slice Tryd.underlying22 (hval 0 22 v0 rfl rfl)
  have k0 := h0
  have lt0 : ∀ x ∈ p0, x.block < W.heap.size := by obtain ⟨m, hm⟩ := k0; exact DataW.trod_lt m _ _ _ hm
  obtain ⟨z0, w0⟩ := IsRow.of_trod (j := 0) Tryd.underlying22 Tryd.underlying3 cellsInt bytesInt h0 hsz rfl rfl
  have u0 : len0 ≤ 1048576 := IsRow.upto hk (j := 0) Tryd.underlying22 Tryd.underlying3 cellsInt h0 rfl
  obtain ⟨a1, rfl, rfl, rfl, w1⟩ := open_int Tryd.underlying3 (hval 1 3 v1 rfl rfl) h1
  clear hA0
  refine (walk a0 len0 cap0 z0 a1 W w0 w1 u0 (table hL)).mono fun e W' ⟨he, bel⟩ => ?_
  subst he
  exact ⟨_, rfl, _, _, _, [], _, [], hW', trodAll_mk1 (shut_bool Tryd.underlying4 _), (trodAll_cons_mk (Below.trod laidOut (by kernel_rfl) (of_decide_eq_true (by kernel_rfl)) k0 bel lt0) (trodAll_cons_mk (shut_int Tryd.underlying3 w1) trodAll_mk0)), rfl, bel.frame _, fun h => by cases h⟩

theorem laid_met (os : Os) : laidMet Tryd.prog Rows.bucketSortsUptoRow.laid ((laidWorld os).forCall (fun _ _ => 0) ⟨#[], #[.slice none 0 0, .int .i64 0], []⟩).memory :=
  laidMet_of_run' 100 (by kernel_rfl) (by kernel_rfl)
theorem reads (os : Os) {H : Type} (enc : TypeId × Value → H) : ∃ places, DataW.whole enc Tryd.prog ((laidWorld os).forCall (fun _ _ => 0) ⟨#[], #[.slice none 0 0, .int .i64 0], []⟩).memory Tryd.f3.params.toList Rows.bucketSortsSpec.vars false (#[.slice none 0 0, .int .i64 0] : Array Value).toList 8 = some ([.nil, .lit (.int .i64 0)], [], places) :=
  ⟨[], by kernel_rfl⟩

set_option maxRecDepth 100000 in
theorem lifted (os : Os) (started : os.Started) (H : Type) (enc : TypeId × Value → H) (F : Stop.Interp) :
    ReturnsInHanded {} Tryd.checked os 3 .any ((Rows.OpenSpec.upto Rows.bucketSortsSpec).preRow enc Tryd.prog Tryd.f3 Rows.bucketSortsUptoRow.domain false Rows.bucketSortsUptoRow.laid) (((Rows.OpenSpec.upto Rows.bucketSortsSpec).at F).post enc Tryd.prog Tryd.f3 false true false false) := by
  obtain ⟨places, hx⟩ := reads os enc
  refine returnsInHanded_of_row (C := Tryd.checked) (s := (Rows.OpenSpec.upto Rows.bucketSortsSpec)) own started (by kernel_rfl) Tryd.func3
    (witness_row_at (enc := enc) (C := Tryd.checked) false (laidWorld os) #[.slice none 0 0, .int .i64 0] rfl (by kernel_rfl) (by kernel_rfl) (by kernel_rfl)
      (OpenSpec.preRow_of_cond 8 hx (by kernel_rfl) (fun k hk => by cases hk; kernel_rfl) (by kernel_rfl) (laid_met os))) ?_
  intro W base args ds gs before hval hW _ hcond hsz hL _ _
  exact contract H enc W base args ds gs before hval hW hsz (hcond _ rfl) hL

theorem said : Rows.BucketSortsUptoSaid :=
  OpenClaim.holds_of_cond 3 Tryd.f3 rfl rfl rfl rfl rfl rfl rfl ⟨rfl, rfl, rfl, rfl, rfl⟩ rfl rfl rfl rfl rfl (by kernel_rfl) Tryd.func3 (by kernel_rfl)
    (of_decide_eq_true (by kernel_rfl)) (by unfold Func.isWrapper; first | (rw [if_pos (by decide +kernel)]; kernel_rfl) | (rw [if_neg (by decide +kernel)]; exact ⟨rfl, rfl⟩))
    (fun os started H enc _ F => by rw [OpenClaim.pre_eq_preRow]; exact lifted os started H enc F)

theorem plain (f : FuncId) (fn : Func) (hf : Tryd.pinned.checked.prog.funcNamed "tangram/tangramlaw06.BucketSorts" = some f) (hfn : Tryd.pinned.checked.prog.funcs[f]? = some fn) :
    false = Tryd.pinned.checked.prog.looks [] ∧ ∀ (j : Nat) t, fn.params[j]? = some t → Tryd.pinned.checked.prog.wantsStandIn t = false := by
  obtain rfl : f = 3 := Option.some.inj ((show Tryd.prog.funcNamed "tangram/tangramlaw06.BucketSorts" = some 3 by kernel_rfl).symm.trans hf) |>.symm
  obtain rfl : fn = Tryd.f3 := (Option.some.inj (Tryd.func3.symm.trans hfn)).symm
  refine ⟨by kernel_rfl, fun j t ht => ?_⟩
  rw [Tryd.params3] at ht
  obtain hx : t = 22 ∨ t = 3 := by simpa using Array.mem_of_getElem? ht
  rcases hx with rfl | rfl
  · exact (show Tryd.prog.wantsStandIn 22 = false by kernel_rfl)
  · exact (show Tryd.prog.wantsStandIn 3 = false by kernel_rfl)

theorem card : Rows.BucketSortsUptoCardSaid :=
  Claim7.holds_tied_plain_at .later [] _ _ _ _ said (fun _ h => by cases h) (by kernel_rfl) (fun _ h => by cases h) bucketSortsUpto_row_tie rfl ⟨rfl, rfl⟩ (by kernel_rfl) rfl plain (by kernel_rfl)

end lawSorts

theorem bucketSortsUpto_holds : Rows.BucketSortsUptoCardSaid := lawSorts.card

#print axioms bucketSortsUpto_holds
end Go.Proofs.YtofphdmebjcofaaDoor
