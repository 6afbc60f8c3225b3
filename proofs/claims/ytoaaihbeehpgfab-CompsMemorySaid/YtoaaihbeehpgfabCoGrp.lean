/-
  Groups.
-/
import Derived.Test.YtoaaihbeehpgfabCoG
import Derived.Test.YtoaaihbeehpgfabCoRows
import Derived.Sort.Grow
import Derived.Deep.CutBlock
import Derived.Deep.CutRange
namespace Go.Proofs.Ytoaaihbeehpgfab
open Go.RowKit Go.Sort

def GrpPost (n : Nat) (m : Nat → Nat) (w : World) (e : Ending) (w' : World) : Prop :=
  ∃ v vs, e = .returned v ∧ RowsZ w' w.heap.size v vs (Co.gl m n n) ∧ Below w.heap.size w w'

/-- The numbers' list lies apart from the groups, and is as it was. -/
def Clear (nb : Option Nat) (w2 wr : World) (gv : Value) (vs : List Value) : Prop :=
  ∀ b, nb = some b → (∀ (u : Nat) (x : Value), vs[u]? = some x → x.ownBlock ≠ some b) ∧ gv.ownBlock ≠ some b ∧ wr.heap[b]? = w2.heap[b]?

/-- The groups ls, beside the numbers' list. -/
def GrpAt (w w2 wr : World) (nb : Option Nat) (gv : Value) (ls : List (List Int)) : Prop :=
  ∃ vs, RowsZ wr w.heap.size gv vs ls ∧ Clear nb w2 wr gv vs ∧ Below w.heap.size w wr ∧ w2.heap.size ≤ wr.heap.size

theorem row_form {w : World} {B : Nat} {v : Value} {vs : List Value} {ls : List (List Int)} (h : RowsZ w B v vs ls) (hn : 0 < ls.length) : ∃ g c, v = .slice (some ⟨g, 0, none⟩) ls.length c := by
  rcases h.outer.2 with ⟨rfl, h0⟩ | ⟨g, cap, cur, rfl, _⟩
  · omega
  · exact ⟨g, cap, rfl⟩
theorem row_shape {w : World} {B : Nat} {v : Value} {vs : List Value} {ls : List (List Int)} (h : RowsZ w B v vs ls) : ∃ ao c, v = .slice ao ls.length c := by
  rcases h.outer.2 with ⟨rfl, h0⟩ | ⟨g, cap, cur, rfl, _⟩
  · exact ⟨none, 0, by rw [h0]⟩
  · exact ⟨_, cap, rfl⟩

set_option maxRecDepth 100000 in
set_option maxHeartbeats 16000000 in
theorem groups_any (v : Option Addr) (n : Nat) (m : Nat → Nat) (w : World) (h : IsSets w v n m) : Calls Try.prog 8 #[.pointer v] w (GrpPost n m w) := by
  obtain ⟨i0, hi, hz0, hz1, hz2⟩ := info_parts Try.infoNum
  obtain ⟨i1, hi1, hy0, hy1, hy2⟩ := info_parts Try.infoRow
  have hn := h.bound
  have HNORM := Nu.hid h.norm
  have hcl := Co.cnt_le n m
  have HC := Nu.hid (count_any v n m w h)
  obtain ⟨c, hc⟩ : ∃ c, Co.cnt n m = c := ⟨_, rfl⟩
  rw [hc] at HC hcl
  have hmo : ∀ W, (Instr.makeSlice 39 (.int .i64 0) (.int .i64 (c : Int))).run Try.prog W = .ok (.slice (some ⟨W.heap.size, 0, none⟩) 0 c) (W.alloc (.cells (madeCells #[.slice none 0 0] c) 36)) := fun W => by
    have := run_make (P := Try.prog) W 39 36 i1 (.slice none 0 0) Try.underlying39 hi1 hy0 .i64 .i64 0 (c : Int) (by omega) (by omega) (by rw [hy2]; omega) (by omega)
    rw [this, hy1]
    simp [Value.cells]
  have hmi : ∀ (W : World) (s : Nat), s ≤ 1048576 → (Instr.makeSlice 36 (.int .i64 0) (.int .i64 (s : Int))).run Try.prog W = .ok (.slice (some ⟨W.heap.size, 0, none⟩) 0 s) (W.alloc (.cells (madeCells #[.int .i64 0] s) 3)) := fun W s hs => by
    have := run_make (P := Try.prog) W 36 3 i0 (.int .i64 0) Try.underlying36 hi hz0 .i64 .i64 0 (s : Int) (by omega) (by omega) (by rw [hz2]; omega) (by omega)
    rw [this, hz1]
    simp [Value.cells]
  have HMI := Nu.hid hmi
  have HSET := Nu.hid h
  have HNUM := Nu.hid (numbered_any v n m _ (h.later ((Below.refl _ _).alloc (Nat.le_refl _) (.cells (madeCells #[.slice none 0 0] c) 36))))
  have HROW0 : Hid (RowsZ (w.alloc (.cells (madeCells #[.slice none 0 0] c) 36)) w.heap.size (.slice (some ⟨w.heap.size, 0, none⟩) 0 c) [] []) :=
    ⟨rfl, World.ownsRow_made w _ c (Nat.le_refl _) (by unfold maxLen; omega) (by rw [size_madeCells]; omega), fun u x l hx => by simp at hx, fun u u' x x' b _ hx => by simp at hx, fun u x b hx => by simp at hx⟩
  clear h hmi hc
  go_enter Try.func8, Try.ntmps8
  go_wp2_with (go_at_call 14; refine HC.out.mono ?_; rintro e w1 ⟨rfl, hw1⟩; obtain rfl := hw1.symm; refine Hid.out ?_)
  refine Nu.hid ?_
  go_wp2_with (go_at_call 23; refine HNUM.out.mono ?_; rintro e w2 ⟨nv, rfl, ho2, hb2⟩; obtain ⟨ao, ca, hnv, hat2, hbl2⟩ := ho2.form; rw [Co.ints_length] at hnv; have HO2 := Nu.hid ho2; have HB2 := Nu.hid hb2; have HBL2 := Nu.hid hbl2; have HNV := Nu.hid hnv; clear ho2 hb2 hat2 hbl2; subst hnv; refine Hid.out ?_)
  refine Nu.hid ?_
  have hs2 := HB2.out.size
  rw [World.size_alloc] at hs2
  have HST : Hid (GrpAt w w2 w2 (Value.slice ao n ca).ownBlock (.slice (some ⟨w.heap.size, 0, none⟩) 0 c) (Co.gl m 0 0)) := by
    refine ⟨[], HROW0.out.later HB2.out, fun b hb => ⟨fun u x hx => by simp at hx, ?_, rfl⟩, ((Below.refl _ _).alloc (Nat.le_refl _) _).trans (HB2.out.mono (by simp)), Nat.le_refl _⟩
    rcases ao with _ | x
    · cases hb
    · obtain rfl := Option.some.inj hb
      have := (HBL2.out x rfl).1
      rw [World.size_alloc] at this
      intro e
      have e : w.heap.size = x.block := Option.some.inj e
      omega
  clear HC HNUM HROW0 hmo
  go_wp2
  go_loopw [3, 12] (fun gv cv wr => ∃ a : Nat, a ≤ n ∧ cv = .int .i64 (a : Int) ∧ GrpAt w w2 wr (Value.slice ao n ca).ownBlock gv (Co.gl m a a)) (fun _ cv _ => n - (intOf cv).toNat)
  case atStart => exact ⟨0, Nat.zero_le _, rfl, HST.out⟩
  case round =>
    obtain ⟨a, han, rfl, vs, hrows, hclr, hb, hsz⟩ := hrel
    have hgl := Co.gl_length m a a
    have hcf := Co.cntTo_le (Co.fix m) a
    obtain ⟨go, gc, hgv⟩ := row_shape hrows
    rw [hgl] at hgv
    by_cases hlt : a < n
    · have ha0 : (0 : Int) ≤ (a : Int) := by omega
      have ha1 : (a : Int) < (n : Int) := by omega
      have hnum : OwnZ wr _ (Value.slice ao n ca) (Co.ints n (Co.num m)) := HO2.out.same fun b hbk _ => (hclr b hbk).2.2
      obtain ⟨ao', ca', e', hat, -⟩ := hnum.form
      rw [Co.ints_length] at e'
      cases e'
      obtain ⟨nb, no, rfl, cn⟩ := hat a _ (Co.ints_at (f := Co.num m) hlt)
      have hnb := block_lt_of_cell cn
      have HCLR := Nu.hid hclr
      have HROWS := Nu.hid hrows
      have HB := Nu.hid hb
      have hsz0 := hb.size
      have HGL := Nu.hid hgl
      subst hgv
      clear hclr hrows hb hat hnum hgl
      have HSIZE : Hid (Calls Try.prog 15 #[.pointer v, .int .i64 (a : Int)] wr fun e w' => e = .returned (.int .i64 (Co.size n m a : Int)) ∧ ∃ k, w' = wr.drewN k) := by
        have := size_any v n m a wr (HSET.out.later HB.out)
        rw [Co.sizeI_in hlt] at this
        exact this
      have hsl := Co.size_le n m a
      obtain ⟨K, hK⟩ : ∃ K, Co.num m a = K := ⟨_, rfl⟩
      rw [hK] at cn
      obtain ⟨L, hL⟩ : ∃ L, Co.cntTo (Co.fix m) a = L := ⟨_, rfl⟩
      obtain ⟨s, hs⟩ : ∃ s, Co.size n m a = s := ⟨_, rfl⟩
      rw [hs] at HSIZE hsl
      rw [hL] at hcf HGL HROWS HCLR ⊢
      have HKL : Hid ((m a = a ∧ K = L ∧ Co.gl m (a + 1) (a + 1) = Co.gl m a a ++ [[(a : Int)]]) ∨ (K < L ∧ (Co.gl m a a)[K]? = some (Co.mem m a (m a)) ∧ Co.gl m (a + 1) (a + 1) = (Co.gl m a a).set K (Co.mem m a (m a) ++ [(a : Int)]))) := by
        by_cases hf : m a = a
        · exact .inl ⟨hf, by rw [← hK, ← hL]; exact Co.num_self hf, Co.gl_least HNORM.out hlt hf⟩
        · obtain ⟨g1, g2⟩ := Co.gl_more HNORM.out hlt hf
          rw [hK] at g1 g2
          refine .inr ⟨?_, g1, g2⟩
          have := (List.getElem?_eq_some_iff.1 g1).1
          rw [HGL.out] at this
          exact this
      have hKL : K ≤ L := by
        rcases HKL.out with ⟨_, h, _⟩ | ⟨h, _⟩ <;> omega
      have hsp : s ≤ 1048576 := by omega
      have hmk := fun W => HMI.out W s hsp
      clear hK hL hs
      go_upto_if 20 with fail
      go_cut [3] from 20 to 27 (fun gv wx => ∃ (g gc : Nat) (ls : List (List Int)) (l : List Int), gv = .slice (some ⟨g, 0, none⟩) ls.length gc ∧ ls[K]? = some l ∧ ls.set K (l ++ [(a : Int)]) = Co.gl m (a + 1) (a + 1) ∧ l.length ≤ n ∧ GrpAt w w2 wx (Value.slice (some ⟨nb, no, none⟩) n ca).ownBlock gv ls)
      case first =>
        rcases HKL.out with ⟨hf, hkl, hgl⟩ | ⟨hkl, hl, hgl⟩
        · have hd : ((K : Int) == (L : Int)) = true := by simp [hkl]
          have HGN := Nu.hid hgl
          have HKK := Nu.hid hkl
          clear hf hkl hgl HKL
          go_wp2_with (go_at_call 15; refine HSIZE.out.mono ?_; rintro e W ⟨rfl, q, hW⟩; have HW := Nu.hid hW; clear hW; refine Hid.out ?_)
          refine Nu.hid ?_
          have hRW : RowsZ W w.heap.size (.slice go L gc) vs (Co.gl m a a) := by rw [HW.out]; exact HROWS.out.later (below_drewN (Below.refl _ _) q)
          have hbW : Below w.heap.size w W := by rw [HW.out]; exact below_drewN HB.out q
          have hcW : Clear (Value.slice (some ⟨nb, no, none⟩) n ca).ownBlock w2 W (.slice go L gc) vs := by rw [HW.out]; exact HCLR.out
          have hsW1 : W.heap.size ≤ wr.heap.size := by rw [HW.out]; exact Nat.le_refl _
          have hsW2 : wr.heap.size ≤ W.heap.size := by rw [HW.out]; exact Nat.le_refl _
          clear HW
          have hR1 := hRW.later ((Below.refl W.heap.size W).alloc (Nat.le_refl _) (.cells (madeCells #[.int .i64 0] s) 3))
          have hx1 : OwnZ (W.alloc (.cells (madeCells #[.int .i64 0] s) 3)) w.heap.size (.slice (some ⟨W.heap.size, 0, none⟩) 0 s) [] := World.ownsRow_made W _ s (by omega) (by unfold maxLen; omega) (by rw [size_madeCells]; omega)
          have hout := hR1.outer
          rw [HGL.out] at hout
          have HOUT := Nu.hid hout
          have HR1 := Nu.hid hR1
          have HX1 := Nu.hid hx1
          have HBW := Nu.hid hbW
          have HCW := Nu.hid hcW
          have HRW := Nu.hid hRW
          clear hR1 hx1 hout hbW hcW hRW
          go_wp2_with (at_builtin; refine wpList_append_own_at _ rfl _ _ 39 rfl w.heap.size 36 i1 (.slice none 0 0) 1 24 Try.underlying39 hi1 hy0 hy1 hy2 rfl (by decide) _ _ _ rfl (World.ownsRow.alloc HOUT.out _) ⟨W.heap.size + 1, 0, none⟩ 1 1 [.slice (some ⟨W.heap.size, 0, none⟩) 0 s] rfl rfl (by have := cell_one_new (W.alloc (.cells (madeCells #[.int .i64 0] s) 3)) (.slice (some ⟨W.heap.size, 0, none⟩) 0 s) 36; rw [World.size_alloc] at this; exact this) (by simp [Value.oneCell']) (by unfold maxLen; omega) (by omega) (by simp; omega) ?_; refine Hid.out ?_)
          refine Nu.hid ?_
          intro gv3 w3 hown3 hgrow3 _ hat3
          obtain ⟨g3, c3, hgv3⟩ := own_succ hown3
          subst hgv3
          have hfar : ∀ (y : Value) (k : List Int) (b : Nat), OwnZ W w.heap.size y k → y.ownBlock = some b → b < W.heap.size := fun y k b ho hb => (World.ownsRow.lt ho b hb).2
          have hg3 : RowsZ w3 w.heap.size (.slice (some ⟨g3, 0, none⟩) (L + 1) c3) (vs ++ [.slice (some ⟨W.heap.size, 0, none⟩) 0 s]) (Co.gl m a a ++ [[]]) := by
            refine HR1.out.grow HX1.out (fun u y b hy hb e => ?_) (fun b hb e => ?_) (tmp := .cells #[.slice (some ⟨W.heap.size, 0, none⟩) 0 s] 36) (by rw [HGL.out]; exact hown3) hgrow3 (by simpa using hat3)
            · have e : W.heap.size = b := Option.some.inj e
              obtain ⟨k, hk⟩ := HRW.out.at hy
              have := hfar y k b (HRW.out.row u y k hy hk) hb
              omega
            · have e : W.heap.size = b := Option.some.inj e
              have := (World.ownsRow.lt HRW.out.outer b hb).2
              omega
          have hsz3 : W.heap.size + 1 + 1 ≤ w3.heap.size := by
            have := hgrow3.size
            simp at this
            exact this
          have hoB : ∀ b, (Value.slice go L gc).ownBlock = some b → w.heap.size ≤ b := fun b hb => (World.ownsRow.lt HRW.out.outer b hb).1
          have hb3 : Below w.heap.size w w3 := ((HBW.out.alloc HBW.out.size _).alloc (by simp; omega) _).grown hgrow3 (by simp; omega) hoB
          have hclr3 : Clear (Value.slice (some ⟨nb, no, none⟩) n ca).ownBlock w2 w3 (.slice (some ⟨g3, 0, none⟩) (L + 1) c3) (vs ++ [.slice (some ⟨W.heap.size, 0, none⟩) 0 s]) := fun b hb => by
            obtain rfl : nb = b := Option.some.inj hb
            obtain ⟨k1, k2, k3⟩ := HCW.out nb rfl
            refine ⟨fun u y hy e => ?_, fun e => ?_, ?_⟩
            · by_cases hu : u < vs.length
              · rw [List.getElem?_append_left hu] at hy
                exact k1 u y hy e
              · rw [List.getElem?_append_right (by omega)] at hy
                have hl := (List.getElem?_eq_some_iff.1 hy).1
                have e0 : u - vs.length = 0 := by simp at hl; omega
                rw [e0] at hy
                obtain rfl := Option.some.inj hy
                have e : W.heap.size = nb := Option.some.inj e
                omega
            · rcases hat3 with e2 | e2
              · exact k2 (e2.symm.trans e)
              · have e3 := Option.some.inj (e2.symm.trans e)
                try simp at e3
                omega
            · rw [hgrow3.block nb (by simp; omega) (fun e => k2 e.symm), Below.heap_alloc _ _ nb (by simp; omega), Below.heap_alloc _ _ nb (by omega)]
              exact k3
          have HEND : Hid (GrpAt w w2 w3 (Value.slice (some ⟨nb, no, none⟩) n ca).ownBlock (.slice (some ⟨g3, 0, none⟩) (L + 1) c3) (Co.gl m a a ++ [[]])) := ⟨_, hg3, hclr3, hb3, by omega⟩
          clear hown3 hgrow3 hat3 hg3 hb3 hclr3 HOUT HR1 HX1
          go_wp2
          go_meet
          refine ⟨g3, c3, _, [], by rw [List.length_append, HGL.out]; rfl, ?_, ?_, by simp, HEND.out⟩
          · rw [HKK.out, List.getElem?_append_right (by rw [HGL.out]; omega), HGL.out, Nat.sub_self]
            rfl
          · rw [HGN.out, HKK.out, List.set_append_right _ _ (by rw [HGL.out]; omega), HGL.out, Nat.sub_self]
            rfl
        · have hd : ((K : Int) == (L : Int)) = false := by simp; omega
          have HL := Nu.hid hl
          have HGN := Nu.hid hgl
          have hml := Co.mem_length m a (m a)
          obtain ⟨g, gc', hgo⟩ := row_form HROWS.out (by rw [HGL.out]; omega)
          rw [HGL.out] at hgo
          have HGO := Nu.hid hgo
          clear hl hgl HKL hgo
          go_wp2
          go_meet
          refine ⟨g, gc', _, _, by rw [HGL.out]; exact HGO.out, HL.out, HGN.out.symm, by omega, vs, HROWS.out, HCLR.out, HB.out, hsz⟩
      case rest =>
        obtain ⟨g, gc', ls, l, rfl, hl, hset, hll, vs', hrows, hclr, hb, hsz'⟩ := hcut
        have hnb2 : nb < w2.heap.size := (HBL2.out ⟨nb, no, none⟩ rfl).2
        clear HKL HROWS HCLR HGL HB HSIZE hmk cn
        obtain ⟨x, hx⟩ := hrows.at' hl
        have hlk := (List.getElem?_eq_some_iff.1 hl).1
        have hox := hrows.row K x l hx hl
        obtain ⟨xo, xc, hxe, -, -⟩ := hox.form
        subst hxe
        have cx := World.ownsRow.cells hrows.outer (g := g) rfl K _ hx
        have ea : ((⟨g, 0, none⟩ : Addr).add K) = ⟨g, K, none⟩ := by
          by_cases h0 : K = 0 <;> simp [Addr.add, h0]
        rw [ea] at cx
        clear ea
        obtain ⟨p1, hp1⟩ : ∃ p1, l.length = p1 := ⟨_, rfl⟩
        unfold OwnZ at hox
        rw [hp1] at hox hx cx hll
        have HOX := Nu.hid hox
        have HX := Nu.hid hx
        have HL := Nu.hid hl
        have HP1 := Nu.hid hp1
        have HROWS := Nu.hid hrows
        have HCLR := Nu.hid hclr
        have HB := Nu.hid hb
        have HSET2 := Nu.hid hset
        have hsb := hb.size
        have K0 : (0 : Int) ≤ (K : Int) := by omega
        have K1 : (K : Int) < (ls.length : Int) := by omega
        clear hox hx hl hp1 hrows hclr hb hset
        go_wp2_with (at_builtin; refine wpList_append_own_at _ rfl _ _ 36 rfl w.heap.size 3 i0 (.int .i64 0) 1 8 Try.underlying36 hi hz0 hz1 hz2 rfl (by decide) _ _ _ rfl (World.ownsRow.alloc HOX.out _) ⟨wc.heap.size, 0, none⟩ 1 1 [.int .i64 (a : Int)] rfl rfl (cell_one_new _ _ _) (by simp [Value.oneCell']) (by unfold maxLen; omega) (by omega) (by simp; omega) ?_; refine Hid.out ?_)
        refine Nu.hid ?_
        intro v4 w4 hown4 hgrow4 _ hat4
        obtain ⟨g4, c4, hv4⟩ := own_succ hown4
        subst hv4
        have ho4 : OwnZ w4 w.heap.size (.slice (some ⟨g4, 0, none⟩) (p1 + 1) c4) (l ++ [(a : Int)]) := by
          unfold OwnZ
          rw [List.length_append, List.map_append, HP1.out]
          exact hown4
        obtain ⟨k1, k2, k3, k4⟩ := HROWS.out.put HX.out HL.out ho4 hgrow4 (by simpa using hat4)
        rw [HSET2.out] at k3
        have hb4 := HB.out.trans k4
        have hoB : ∀ b, (Value.slice xo p1 xc).ownBlock = some b → w.heap.size ≤ b := fun b hb => (World.ownsRow.lt HOX.out b hb).1
        have HEND : Hid (GrpAt w w2 (w4.setCell ⟨g, K, none⟩ (.slice (some ⟨g4, 0, none⟩) (p1 + 1) c4)) (Value.slice (some ⟨nb, no, none⟩) n ca).ownBlock (.slice (some ⟨g, 0, none⟩) ls.length gc') (Co.gl m (a + 1) (a + 1))) := by
          refine ⟨_, k3, fun b hb => ?_, hb4, by have := k4.size; omega⟩
          obtain rfl : nb = b := Option.some.inj hb
          obtain ⟨j1, j2, j3⟩ := HCLR.out nb rfl
          refine ⟨fun u y hy e => ?_, j2, ?_⟩
          · rw [List.getElem?_set] at hy
            by_cases hu : K = u
            · rw [if_pos hu] at hy
              split at hy
              · obtain rfl := Option.some.inj hy
                rcases hat4 with e2 | e2
                · exact j1 K _ HX.out (e2.symm.trans e)
                · have e3 := Option.some.inj (e2.symm.trans e)
                  try simp at e3
                  omega
              · cases hy
            · rw [if_neg hu] at hy
              exact j1 u y hy e
          · rw [heap_setCell_other w4 ⟨g, K, none⟩ nb _ (fun e => j2 (by rw [e]; rfl)), hgrow4.block nb (by simp; omega) (fun e => j1 K _ HX.out e.symm), Below.heap_alloc _ _ nb (by omega)]
            exact j3
        have hls : ls.length = (Co.gl m (a + 1) (a + 1)).length := by rw [← HSET2.out, List.length_set]
        have HLS := Nu.hid hls
        clear hown4 hgrow4 hat4 ho4 k3 k4 hb4 hls
        go_wp2
        go_roundw
        case rel => exact ⟨a + 1, by omega, by go_num, HEND.out⟩
        case measure => simp [intOf]; omega
    · have hd : ¬ ((a : Int) < (n : Int)) := by omega
      obtain rfl : a = n := by omega
      have HR := Nu.hid hrows
      have HB := Nu.hid hb
      subst hgv
      clear hrows hclr hb hgl
      go_wp2
      go_ret
      exact ⟨_, vs, rfl, HR.out, HB.out⟩

end Go.Proofs.Ytoaaihbeehpgfab
