import Derived.Test.YtjlfdkeklilafabMg10
import Derived.Test.YtjlfdkeklilafabMg12
import Derived.Test.YtjlfdkeklilafabMg19
import Derived.Test.YtjlfdkeklilafabMg21
import Derived.Test.YtjlfdkeklilafabMg06
import Derived.Deep.CutRange
import Derived.Test.YtjlfdkeklilafabMg09
/-
  The law RotMemory: up to where the copy of the graph stands.
-/
namespace Go.Proofs.Ytjlfdkeklilafab
open Go.ChangeShapes Go.WideShapes Go.ChangeAt Go.RowKit AnyOrd
namespace lawRM

/-- Two lists of lists: neither's outer block is the other's, nor one of its lists'. -/
def TwoR (m : Value) (ms : List Value) (v : Value) (ws : List Value) : Prop :=
  (∀ b, m.ownBlock = some b → v.ownBlock ≠ some b) ∧ (∀ (u : Nat) (x : Value) (b : Nat), ms[u]? = some x → x.ownBlock = some b → v.ownBlock ≠ some b) ∧ (∀ (u : Nat) (x : Value) (b : Nat), ws[u]? = some x → x.ownBlock = some b → m.ownBlock ≠ some b)

set_option maxRecDepth 100000 in
set_option maxHeartbeats 16000000 in
theorem walk (n : Int) (ao : Option Addr) (ca : Nat) (es : List (Int × Int)) (xo : Option Addr) (xc : Nat) (ls : List (List Int)) (w : World) (_ : -9223372036854775808 ≤ n ∧ n ≤ 9223372036854775807) (hq : PairsIn w ao es.length ca es) (hl : es.length * 16 ≤ 140737488351232) (hx : RowsIn w xo ls.length xc ls) (hN : ls.length ≤ 1048576) (hsm : ∀ l ∈ ls, l.length ≤ 1048576) :
    Calls Try.prog 4 #[.agg #[.int .i64 n, .slice ao es.length ca], .slice xo ls.length xc] w fun e w' => e = .returned (.bool true) ∧ Below w.heap.size w w' := by
  obtain ⟨W, hW⟩ : ∃ W, W = w.alloc (.cells #[.int .i64 n, .slice ao es.length ca] 24) := ⟨_, rfl⟩
  have hG0 : GR W w n ao ca es xo ls := by rw [hW]; exact .start hq.hat hx.hat
  have HG : Hid (∀ V, Below W.heap.size W V → GR V w n ao ca es xo ls) := fun V hV => hG0.later hV
  have HBOX : Hid (∀ V, Below W.heap.size W V → V.cell? ⟨w.heap.size, 0, none⟩ = some (.int .i64 n) ∧ V.cell? ⟨w.heap.size, 1, none⟩ = some (.slice ao es.length ca)) := fun V hV => (hG0.later hV).cells
  have HLAT : Hid (∀ V, Below W.heap.size W V → EdgesAt V ao es) := fun V hV => (hG0.later hV).edges
  have HFX := Nu.hid (fixed11_any W)
  have HWW := Nu.hid hW
  have HNIL := Nu.hid hq.hnil
  have hll := hx.hsm
  clear hq hx hG0 hW
  go_enter Try.func4, Try.ntmps4
  go_wp2_with (go_at_call 5; rw [← HWW.out]; refine HFX.out.mono ?_; rintro e w1 ⟨rfl, hb1⟩; have HB1 := Nu.hid hb1; clear hb1; refine Hid.out ?_)
  refine Nu.hid ?_
  go_upto_region 3 with fail
  go_cut [5] from 27 to 33 (fun c wt => ∃ H gM cM : Nat, c = .pointer (some ⟨H, 0, none⟩) ∧ wt.heap[H]? = some (.cells #[.int .i64 n, .slice (some ⟨gM, 0, none⟩) es.length cM] 24 (0, 0)) ∧ OwnE wt w1.heap.size (.slice (some ⟨gM, 0, none⟩) es.length cM) es ∧ w1.heap.size ≤ H ∧ H ≠ gM ∧ Below w1.heap.size w1 wt)
  case first =>
    go_wp2_with fail
    rename_i K1 hK1
    refine wp_region_any (by kernel_rfl) ?_
    have hbW : Below w1.heap.size w1 { w1 with drawn := w1.drawn + 1 } := (Below.refl _ _).drew
    refine AnyOrd.any (mcSpec w.heap.size w1.heap.size n ao ca es) 8 189 (by decide) rfl (by kernel_rfl) ?_ ?_ ?_
    · intro i hi v vs lo hi' U U' h1 h2 h3
      have hc : i = 0 ∨ i = 1 ∨ i = 2 ∨ i = 3 ∨ i = 4 ∨ i = 5 ∨ i = 6 ∨ i = 7 := by omega
      rcases hc with rfl | rfl | rfl | rfl | rfl | rfl | rfl | rfl <;> first | exact newSpE.stab h1 h2 h3 | exact boxSp.stab h1 h2 h3 | exact cpySpE.stab h2 h3 | exact h3
    · intro i o ρ U ev hi ho hb hd he1 he2 _
      have hb2 : Below w1.heap.size w1 U := hbW.trans hb
      have hbU : Below W.heap.size W U := HB1.out.trans (hb2.mono HB1.out.size)
      obtain ⟨c0, c1⟩ := HBOX.out U hbU
      have hEU := HLAT.out U hbU
      have hc : i = 0 ∨ i = 1 ∨ i = 2 ∨ i = 3 ∨ i = 4 ∨ i = 5 ∨ i = 6 ∨ i = 7 := by omega
      rcases hc with rfl | rfl | rfl | rfl | rfl | rfl | rfl | rfl <;> obtain rfl := Option.some.inj ho
      · have e1 := he2 2 (by kernel_rfl)
        exact gives_value (v := .pointer (some ⟨w.heap.size, 0, none⟩)) (w' := U) (by simp [execOp, go_sem, e1]) ⟨Below.refl _ _, rfl⟩
      · obtain ⟨_, _, _, _, _, r4⟩ := hd 0 (by simp [mcSpec, lodSp])
        have r5 : ρ 0 = .pointer (some ⟨w.heap.size, 0, none⟩) := r4
        exact gives_value (v := .int .i64 n) (w' := U) (by simp [execOp, go_sem, he1 0 27 (by omega) rfl (by decide), r5, c0]) ⟨Below.refl _ _, rfl⟩
      · refine gives_value (v := .slice (some ⟨U.heap.size, 0, none⟩) 0 0) (w' := U.alloc (.cells #[] 47)) ?_ ⟨(Below.refl _ _).alloc (Nat.le_refl _) _, rfl, by simp, heap_alloc_new _ _⟩
        simp [execOp, go_sem]
      · have e1 := he2 2 (by kernel_rfl)
        exact gives_value (v := .pointer (some ⟨w.heap.size, 1, none⟩)) (w' := U) (by simp [execOp, go_sem, e1]) ⟨Below.refl _ _, rfl⟩
      · obtain ⟨_, _, _, _, _, r4⟩ := hd 3 (by simp [mcSpec, lodSp])
        have r5 : ρ 3 = .pointer (some ⟨w.heap.size, 1, none⟩) := r4
        exact gives_value (v := .slice ao es.length ca) (w' := U) (by simp [execOp, go_sem, he1 3 30 (by omega) rfl (by decide), r5, c1]) ⟨Below.refl _ _, rfl⟩
      · obtain ⟨lo, hi', q1, q2, q3, r1, r2, r3⟩ := hd 2 (by simp [mcSpec, cpySpE])
        obtain ⟨_, _, _, _, _, r4⟩ := hd 4 (by simp [mcSpec, cpySpE])
        exact gives_copyE (he1 2 29 (by omega) rfl (by decide)) (he1 4 31 (by omega) rfl (by decide)) r1 r3 q1 r4 hEU HNIL.out hl
      · obtain ⟨_, _, _, _, _, r1⟩ := hd 1 (by simp [mcSpec])
        obtain ⟨_, _, _, _, _, g2, d2, _, _, r2, _⟩ := hd 5 (by simp [mcSpec])
        have r1' : ρ 1 = .int .i64 n := r1
        exact gives_value (v := .agg #[ρ 1, ρ 5]) (w' := U) (by simp [execOp, go_sem, he1 1 28 (by omega) rfl (by decide), he1 5 32 (by omega) rfl (by decide), r1', r2]) ⟨Below.refl _ _, _, _, rfl, rfl⟩
      · refine gives_value (v := .pointer (some ⟨U.heap.size, 0, none⟩)) (w' := U.alloc (.cells #[.int .i64 0, .slice none 0 0] 24)) ?_ ⟨(Below.refl _ _).alloc (Nat.le_refl _) _, rfl, by simp, heap_alloc_new _ _⟩
        simp [execOp, go_sem]
    · intro ρ lo hi V a ha hdef he1 he2 hb hd hdis
      have p5 := he1 7 5 (by omega) rfl (by decide)
      have p33 := he1 6 33 (by omega) rfl (by decide)
      have hb2 : Below w1.heap.size w1 V := hbW.trans hb
      obtain ⟨t1, t2, t3, m7, n7, hbox⟩ := hd 7 (by omega)
      obtain ⟨a2, _, _, m2, n2, _⟩ := hd 2 (by omega)
      obtain ⟨b1, _, _, x1, d1, y1, _, r1, s1, t1', u1⟩ := hd 5 (by omega)
      obtain ⟨_, _, _, q1, q2, hq, hv⟩ := hd 6 (by omega)
      obtain ⟨_, _, _, hr1⟩ := hd 1 (by omega)
      have hr1' : ρ 1 = .int .i64 n := hr1
      have hv2 : ρ 6 = .agg #[ρ 1, ρ 5] := by
        have e : [ρ 1, ρ 5] = [q1, q2] := hq
        simp at e
        obtain ⟨rfl, rfl⟩ := e
        exact hv
      have z1 : lo 2 = y1 := by
        have e : [ρ 2, ρ 4] = _ := s1
        rw [m2] at e
        injection e with e1
        injection e1 with e2
        injection e2 with e3
        injection e3
      have ne : lo 7 ≠ x1 := by
        have := hdis 7 2 (by omega) (by omega) (by omega)
        have := hdis 7 5 (by omega) (by omega) (by omega)
        omega
      rw [r1] at u1
      rw [hr1', r1] at hv2
      rw [hv2] at p33
      rw [m7] at p5
      have HOWN : Hid (OwnE (put2 V (lo 7) (.int .i64 n) (.slice (some ⟨x1, 0, none⟩) es.length d1)) w1.heap.size (.slice (some ⟨x1, 0, none⟩) es.length d1) es) := own_keep8 u1 fun g hg => by
        obtain rfl : x1 = g := by simpa [Value.ownBlock] using hg
        exact put2_other (fun h => ne h.symm) _ _
      have HBX := Nu.hid (put2_heap hbox (.int .i64 n) (.slice (some ⟨x1, 0, none⟩) es.length d1))
      have HBL := Nu.hid (below_put2 hb2 (R := lo 7) (by omega) (.int .i64 n) (.slice (some ⟨x1, 0, none⟩) es.length d1))
      have HLO : Hid (w1.heap.size ≤ lo 7) := t1
      have HNE := Nu.hid ne
      have HBOX7 := Nu.hid hbox
      clear hd hdis he1 he2 u1 hv2 z1 ne hb hb2 hbox s1 hq hv hr1 hr1'
      refine wpAny_ready (rs := [8]) (by kernel_rfl) (by simp) ?_
      refine AllReady.cons rfl (fun K hK => ?_) AllReady.nil
      rw [if_pos (by rfl)]
      refine Gives.wp (R := fun _ w' => w' = put2 V (lo 7) (.int .i64 n) (.slice (some ⟨x1, 0, none⟩) es.length d1)) ?_ ?_
      · exact gives_store2 p5 p33 HBOX7.out
      · rintro v w' rfl
        refine hK _ _ ?_
        clear hK K
        refine wpAny_done (by kernel_rfl) ?_ _
        refine hK1 _ _ (Met.intro (K1 _ _ ?_))
        rw [ha]
        exact ⟨ρ 7, ρ 0, ρ 1, ρ 2, ρ 3, ρ 4, ρ 5, ρ 6, ⟨lo 7, x1, d1, m7, HBX.out, HOWN.out, HLO.out, HNE.out, HBL.out⟩, by kernel_rfl⟩
  case rest =>
    obtain ⟨H, gM, cM, rfl, hbH, hoE, hHlo, hHne, hbc⟩ := hcut
    have HBH := Nu.hid hbH
    have HOE := Nu.hid hoE
    have HHL : Hid (w1.heap.size ≤ H ∧ H ≠ gM) := ⟨hHlo, hHne⟩
    have HBC := Nu.hid hbc
    clear hbH hoE hHlo hHne hbc
    obtain ⟨w2, rfl⟩ : ∃ w2, w2 = wc := ⟨wc, rfl⟩
    have hB2 : Below W.heap.size W w2 := HB1.out.trans (HBC.out.mono HB1.out.size)
    have G2 := Nu.hid (HG.out w2 hB2)
    have HB2 := Nu.hid hB2
    obtain ⟨i0, hi, hz0, hz1, hz2⟩ := info_parts Try.infoNum
    clear hB2
    go_wp2
    go_loopw [36, 6, 7] (fun c m v wr => ∃ (k : Nat) (ms ws : List Value), k ≤ ls.length ∧ c = .int .i64 (k : Int) ∧ RowsZ wr w2.heap.size m ms (ls.take k) ∧ RowsZ wr w2.heap.size v ws ((ls.take k).map (· ++ [-71, -72])) ∧ TwoR m ms v ws ∧ Below w2.heap.size w2 wr) (fun c _ _ _ => ls.length - (intOf c).toNat)
    case atStart => exact ⟨0, [], [], Nat.zero_le _, rfl, RowsZ.nil _ _, RowsZ.nil _ _, ⟨fun b h => by simp [Value.ownBlock] at h, fun u x b h => by simp at h, fun u x b h => by simp at h⟩, Below.refl _ _⟩
    case round =>
      obtain ⟨k, ms, ws, hk, rfl, hm, hw, ht, hb⟩ := hrel
      obtain ⟨W0, rfl⟩ : ∃ W0, W0 = wr := ⟨_, rfl⟩
      obtain ⟨mo, mc, rfl⟩ := row_shape hm
      obtain ⟨vo, vc, rfl⟩ := row_shape hw
      have HMR := Nu.hid hm
      have HWR := Nu.hid hw
      have HTW := Nu.hid ht
      have HB := Nu.hid hb
      have hb2s := hb.size
      obtain ⟨qm, hqm⟩ : ∃ q, q = (ls.take k).length := ⟨_, rfl⟩
      obtain ⟨qw, hqw⟩ : ∃ q, q = ((ls.take k).map (· ++ [-71, -72])).length := ⟨_, rfl⟩
      rw [← hqm, ← hqw]
      rw [← hqm] at HMR HTW
      rw [← hqw] at HWR HTW
      have hqmb : qm ≤ k := by rw [hqm]; simp; omega
      have hqwb : qw ≤ k := by rw [hqw]; simp; omega
      have HQM := Nu.hid hqm
      have HQW := Nu.hid hqw
      clear hm hw ht hb hqm hqw
      by_cases hlt : k < ls.length
      · have hlti : (k : Int) < (ls.length : Int) := by omega
        have hk0 : (0 : Int) ≤ (k : Int) := by omega
        obtain ⟨l, hlk⟩ : ∃ l, ls[k]? = some l := ⟨_, List.getElem?_eq_getElem hlt⟩
        have HLK := Nu.hid hlk
        obtain ⟨b, o, A, C, rfl, hcell, hL, hln, hC, hC2⟩ := G2.out.rows k l hlk
        have hbl : b < w2.heap.size := block_lt_of_cell hcell
        have hcr := (HB.out.cell (p := ⟨b, o + k, none⟩) hbl).trans hcell
        have HL := Nu.hid (hL.later HB.out)
        obtain ⟨p1, hp1⟩ : ∃ p, p = l.length := ⟨_, rfl⟩
        rw [← hp1] at hcr HL hln hC
        obtain ⟨c2, hc2⟩ : ∃ c2, c2 = p1 + 2 := ⟨_, rfl⟩
        have hw2 : IntKind.i64.wrap ((p1 : Int) + 2) = (c2 : Int) := by rw [IntKind.wrap_i64]; omega
        have hw3 : (p1 : Int) + 2 = (c2 : Int) := by omega
        have hc2b : c2 ≤ 17592186043906 := by omega
        have HC2 := Nu.hid hc2
        have HP := Nu.hid hp1
        clear hcell hL hlk hp1 hc2
        go_wp2_with (at_make; refine wpList_make_own _ rfl _ _ 39 rfl W0.heap.size 3 i0 (.int .i64 0) 1 Try.underlying39 hi hz0 hz1 _ _ _ c2 rfl rfl rfl (by rw [hz2]; omega) (by unfold maxLen; omega) (Nat.le_refl _) ?_; refine Hid.out ?_)
        refine Nu.hid ?_
        intro w3 hown3 hg3
        have hb3 : Below W0.heap.size W0 w3 := (Below.refl _ _).grown hg3 (Nat.le_refl _) (fun j hj => by cases hj)
        have HO3 : Hid (OwnZ w3 W0.heap.size (.slice (some ⟨W0.heap.size, 0, none⟩) 0 c2) []) := hown3
        have HL3 := Nu.hid (HL.out.later hb3)
        have HB3 := Nu.hid hb3
        have hs3 := hb3.size
        clear hown3 hg3 hb3 hcr
        go_wp2_with (at_builtin; refine wpList_extend rfl _ _ rfl w3 W0.heap.size _ [] l HO3.out A p1 C HL3.out hs3 (by rw [← HP.out]; simp; omega) rfl rfl ?_; refine Hid.out ?_)
        refine Nu.hid ?_
        intro v4 w4 ho4 hb4
        obtain ⟨ro, rc, rfl, -⟩ := ho4.form
        have HB4 := Nu.hid (HB3.out.trans hb4)
        have hs4 := HB4.out.size
        rw [← HP.out]
        rw [← HP.out] at ho4
        have HO4 := Nu.hid ho4
        clear ho4 hb4
        go_wp2_with (at_builtin; refine wpList_extend rfl _ _ rfl (w4.alloc (.cells #[.int .i64 (-71), .int .i64 (-72)] 3)) W0.heap.size _ l [-71, -72] (World.ownsRow.alloc HO4.out _) (some ⟨w4.heap.size, 0, none⟩) 2 2 ((lit_ints (l := [-71, -72]) (heap_alloc_new _ _)).lst rfl) (by simp; omega) (by have := HP.out; simp; omega) rfl rfl ?_; refine Hid.out ?_)
        refine Nu.hid ?_
        intro v5 w5 ho5 hb5
        have HB5 : Hid (Below W0.heap.size W0 w5) := (HB4.out.trans ((Below.refl W0.heap.size w4).alloc HB4.out.size _)).trans hb5
        obtain ⟨g5, c5, rfl⟩ : ∃ g c, v5 = .slice (some ⟨g, 0, none⟩) c2 c := by
          have e : (l ++ [-71, -72]).length = c2 := by rw [HC2.out, HP.out]; simp
          have h5 := ho5
          unfold OwnZ at h5
          rw [e, HC2.out] at h5
          obtain ⟨g, c, rfl⟩ := own_succ h5
          exact ⟨g, c, by rw [HC2.out]⟩
        have HO5 := Nu.hid ho5
        have hs5 := HB5.out.size
        have hg5 := World.ownsRow.lt ho5 g5 rfl
        clear ho5 hb5
        have HD1 : Hid (∀ (u : Nat) (z : Value) (b : Nat), ws[u]? = some z → z.ownBlock = some b → (Value.slice (some ⟨g5, 0, none⟩) c2 c5).ownBlock ≠ some b) := fun u z b hz hzb e => by
          obtain ⟨x, hx⟩ := HWR.out.at hz
          have h1 := (World.ownsRow.lt (HWR.out.row u z x hz hx) b hzb).2
          have h2 : g5 = b := by simpa [Value.ownBlock] using e
          omega
        have HD2 : Hid (∀ b, (Value.slice vo qw vc).ownBlock = some b → (Value.slice (some ⟨g5, 0, none⟩) c2 c5).ownBlock ≠ some b) := fun b hb e => by
          have h1 := (World.ownsRow.lt HWR.out.outer b hb).2
          have h2 : g5 = b := by simpa [Value.ownBlock] using e
          omega
        have HE1 : Hid (∀ (u : Nat) (z : Value) (b : Nat), ms[u]? = some z → z.ownBlock = some b → (Value.slice (some ⟨g5, 0, none⟩) p1 c5).ownBlock ≠ some b) := fun u z b hz hzb e => by
          obtain ⟨x, hx⟩ := HMR.out.at hz
          have h1 := (World.ownsRow.lt (HMR.out.row u z x hz hx) b hzb).2
          have h2 : g5 = b := by simpa [Value.ownBlock] using e
          omega
        have HE2 : Hid (∀ b, (Value.slice mo qm mc).ownBlock = some b → (Value.slice (some ⟨g5, 0, none⟩) p1 c5).ownBlock ≠ some b) := fun b hb e => by
          have h1 := (World.ownsRow.lt HMR.out.outer b hb).2
          have h2 : g5 = b := by simpa [Value.ownBlock] using e
          omega
        go_wp2_with (at_builtin; refine wpList_pushRowG rfl _ _ 25 Try.underlying25 rfl w5 w2.heap.size (.slice vo qw vc) ws ((ls.take k).map (· ++ [-71, -72])) (.slice (some ⟨g5, 0, none⟩) c2 c5) (l ++ [-71, -72]) (HWR.out.later HB5.out) (HO5.out.lower hb2s) HD1.out HD2.out (by omega) (by rw [← HQW.out]; omega) rfl rfl ?_; refine Hid.out ?_)
        refine Nu.hid ?_
        intro v6 w6 hr6 hkeep6 hv6 hb6
        have hs6 := hb6.size
        have HM6 : Hid (RowsZ w6 w2.heap.size (.slice mo qm mc) ms (ls.take k)) := (HMR.out.later HB5.out).kept fun b hb hlt => hkeep6 b hlt (by
          rcases hb with hb | ⟨u, x, hx, hxb⟩
          · exact HTW.out.1 b hb
          · exact HTW.out.2.1 u x b hx hxb)
        have HO6 : Hid (OwnZ w6 w2.heap.size (.slice (some ⟨g5, 0, none⟩) p1 c5) l) := by
          have h6 : OwnZ w6 w2.heap.size (.slice (some ⟨g5, 0, none⟩) c2 c5) (l ++ [-71, -72]) := (HO5.out.lower hb2s).same fun g hg hlt => hkeep6 g hlt (fun e => HD2.out g e hg)
          unfold OwnZ at h6 ⊢
          rw [List.length_append, List.map_append, ← HP.out, HC2.out] at h6
          rw [← HP.out]
          exact own_prefix (i := 2) h6 (by rw [List.length_map, HP.out])
        obtain ⟨ao6, q6, ac6, rfl⟩ : ∃ ao q c, v6 = .slice ao q c := by
          obtain ⟨a, c, e⟩ := row_shape hr6
          exact ⟨_, _, _, e⟩
        have HR6 := Nu.hid hr6
        have HK6 := Nu.hid hkeep6
        have HV6 := Nu.hid hv6
        have HB6 := Nu.hid hb6
        have hp1c5 : (p1 : Int) ≤ (c5 : Int) := by
          rcases HO6.out.2 with ⟨e, _⟩ | ⟨g, cap, cur, e, _, _, h1, _⟩
          · cases e
          · cases e
            omega
        clear hr6 hkeep6 hv6 hb6
        go_wp2_with (at_builtin; refine wpList_pushRowG rfl _ _ 26 Try.underlying26 rfl w6 w2.heap.size (.slice mo qm mc) ms (ls.take k) (.slice (some ⟨g5, 0, none⟩) p1 c5) l HM6.out HO6.out HE1.out HE2.out (by omega) (by rw [← HQM.out]; omega) rfl rfl ?_; refine Hid.out ?_)
        refine Nu.hid ?_
        intro v7 w7 hr7 hkeep7 hv7 hb7
        have hmlt : ∀ b, (Value.slice mo qm mc).ownBlock = some b → b < W0.heap.size := fun b h => (World.ownsRow.lt HMR.out.outer b h).2
        have hmslt : ∀ (u : Nat) (x : Value) (b : Nat), ms[u]? = some x → x.ownBlock = some b → b < W0.heap.size := fun u x b hx hxb => by
          obtain ⟨y, hy⟩ := HMR.out.at hx
          exact (World.ownsRow.lt (HMR.out.row u x y hx hy) b hxb).2
        have hwslt : ∀ (u : Nat) (x : Value) (b : Nat), ws[u]? = some x → x.ownBlock = some b → b < W0.heap.size := fun u x b hx hxb => by
          obtain ⟨y, hy⟩ := HWR.out.at hx
          exact (World.ownsRow.lt (HWR.out.row u x y hx hy) b hxb).2
        have hv6c : ∀ b, (Value.slice ao6 q6 ac6).ownBlock = some b → (Value.slice vo qw vc).ownBlock = some b ∨ w5.heap.size ≤ b := fun b h => by
          rcases HV6.out with e | e
          · exact .inl (by rw [← e]; exact h)
          · exact .inr (e b h)
        have hv6lt : ∀ b, (Value.slice ao6 q6 ac6).ownBlock = some b → b < w6.heap.size := fun b h => (World.ownsRow.lt HR6.out.outer b h).2
        have hv7c : ∀ b, v7.ownBlock = some b → (Value.slice mo qm mc).ownBlock = some b ∨ w6.heap.size ≤ b := fun b h => by
          rcases hv7 with e | e
          · exact .inl (by rw [← e]; exact h)
          · exact .inr (e b h)
        have hsn : ∀ {vs : List Value} {z : Value} {u : Nat} {x : Value}, (vs ++ [z])[u]? = some x → vs[u]? = some x ∨ x = z := fun {vs z u x} h => by
          rw [List.getElem?_append] at h
          split at h
          · exact .inl h
          · exact .inr (by simpa using (List.mem_singleton.1 (List.mem_of_getElem? h)))
        have hgb : ∀ {q : Nat} {b : Nat}, (Value.slice (some ⟨g5, 0, none⟩) q c5).ownBlock = some b → g5 = b := fun {q b} h => by simpa [Value.ownBlock] using h
        have HW7 : Hid (RowsZ w7 w2.heap.size (.slice ao6 q6 ac6) (ws ++ [.slice (some ⟨g5, 0, none⟩) c2 c5]) ((ls.take (k + 1)).map (· ++ [-71, -72]))) := by
          show RowsZ _ _ _ _ _
          rw [Ro.take_snoc' HLK.out, List.map_append, List.map_take]
          refine HR6.out.kept fun b hb hlt => hkeep7 b hlt fun e => ?_
          have h0 := hmlt b e
          rcases hb with hb | ⟨u, x, hx, hxb⟩
          · rcases hv6c b hb with h | h
            · exact HTW.out.1 b e h
            · omega
          · rcases hsn hx with h | rfl
            · exact HTW.out.2.2 u x b h hxb e
            · have := hgb hxb
              omega
        have HT7 : Hid (TwoR v7 (ms ++ [.slice (some ⟨g5, 0, none⟩) p1 c5]) (.slice ao6 q6 ac6) (ws ++ [.slice (some ⟨g5, 0, none⟩) c2 c5])) := by
          refine ⟨fun b h e => ?_, fun u x b hx hxb e => ?_, fun u x b hx hxb e => ?_⟩
          · have h1 := hv6lt b e
            rcases hv7c b h with h | h
            · have h0 := hmlt b h
              rcases hv6c b e with e | e
              · exact HTW.out.1 b h e
              · omega
            · omega
          · rcases hsn hx with h | rfl
            · have h0 := hmslt u x b h hxb
              rcases hv6c b e with e | e
              · exact HTW.out.2.1 u x b h hxb e
              · omega
            · have h0 := hgb hxb
              rcases hv6c b e with e | e
              · have := (World.ownsRow.lt HWR.out.outer b e).2
                omega
              · omega
          · rcases hsn hx with h | rfl
            · have h0 := hwslt u x b h hxb
              rcases hv7c b e with e | e
              · exact HTW.out.2.2 u x b h hxb e
              · omega
            · have h0 := hgb hxb
              rcases hv7c b e with e | e
              · have := hmlt b e
                omega
              · omega
        have HR7 : Hid (RowsZ w7 w2.heap.size v7 (ms ++ [.slice (some ⟨g5, 0, none⟩) p1 c5]) (ls.take (k + 1))) := by
          show RowsZ _ _ _ _ _
          rw [Ro.take_snoc' HLK.out]
          exact hr7
        have HB7 : Hid (Below w2.heap.size w2 w7) := (HB.out.trans (HB5.out.mono hb2s)).trans (HB6.out.trans hb7)
        have hwk : IntKind.i64.wrap ((k : Int) + 1) = (k : Int) + 1 := by rw [IntKind.wrap_i64]; omega
        clear hr7 hkeep7 hv7 hb7 hmlt hmslt hwslt hv6c hv6lt hv7c hsn hgb
        go_wp2
        go_roundw
        case rel => exact ⟨k + 1, _, _, by omega, by go_num, HR7.out, HW7.out, HT7.out, HB7.out⟩
        case measure => simp [intOf]; omega
      · have hd : ¬ (k : Int) < (ls.length : Int) := by omega
        have hke : ls.take k = ls := List.take_of_length_le (by omega)
        have hb02 : Below W.heap.size W W0 := HB2.out.trans (HB.out.mono HB2.out.size)
        have hg := HG.out W0 hb02
        have HRA := Nu.hid (r11around_any n ao ca es xo xc ls W0 hg.edges (by omega) hg.rows)
        obtain ⟨c0, c1⟩ := hg.cells
        have HB02 := Nu.hid hb02
        have HKE := Nu.hid hke
        unfold graphVal at HRA
        clear hg hb02 hke
        go_wp2_with (go_at_call 12; refine HRA.out.mono ?_; intro e V hp; obtain ⟨tto, tc, wvs, rfl, hT, hbV⟩ := hp.form; refine Hid.out ?_)
        refine Nu.hid ?_
        have hV2 : Below w2.heap.size w2 V := HB.out.trans (hbV.mono HB.out.size)
        have hVW : Below W.heap.size W V := HB02.out.trans (hbV.mono HB02.out.size)
        have hg := HG.out V hVW
        have hmr := HMR.out.later hbV
        have hwr := HWR.out.later hbV
        rw [HKE.out] at hmr hwr
        have hqm : qm = ls.length := by rw [HQM.out, HKE.out]
        rw [hqm] at hmr ⊢
        obtain ⟨h0, h1, -⟩ := pair_cells ((hV2.block _ (lt_of_block HBH.out)).trans HBH.out)
        obtain ⟨ao', cap', ee, -, -, eh, -⟩ := (HOE.out.below hV2 (Nat.le_refl _)).form
        cases ee
        have hmem : Mem w.heap.size H w2.heap.size gM cM n ao ca es xo ls mo mc ms vo qw vc ws V := ⟨hg.cells.1, hg.cells.2, h0, h1, ⟨lt_of_block hg.box, by have := lt_of_block HBH.out; have := hV2.size; omega⟩, hg.edges, eh, hg.rows, hmr, hwr⟩
        by_cases hE : (Ro.check n es ls).2 = 0
        · have HE := Nu.hid hE
          clear hE
          repeat (first | exact rounds0 hmem hT hl hN hsm hg.low HE.out | go_step)
        · repeat (first | exact rounds1 hmem hT hl hN hsm hg.low hE | go_step)

end lawRM
end Go.Proofs.Ytjlfdkeklilafab

/-
  Lists of lists that came in, in bounds.
-/
namespace Go.Proofs.Ytjlfdkeklilafab
open Go.ChangeShapes Go.WideShapes Go.ChangeAt Go.RowKit Go.Deep

theorem rows_upto {H : Type} {enc : TypeId × Value → H} {W : World} {t : TypeId} {a : Option Addr} {len cap : Nat} {d : DataW H} {p : List MemPlace} {ts : List TypeId} {ds : List (DataW H)} {j : Nat}
    (ht : Try.prog.underlying t = some (.slice 39)) (h : DataW.Trod enc Try.prog W 0 (fun _ => true) true t (.slice a len cap) d p) (hsz : (DataW.weightsEach Try.prog ts ds).all (· ≤ reachBytes) = true) (hts : ts[j]? = some t) (hds : ds[j]? = some d) (hk : Rows.uptoSmall H ds = true) :
    ∃ ls, RowsIn W a len cap ls ∧ len ≤ 1048576 ∧ ∀ l ∈ ls, l.length ≤ 1048576 := by
  have hbk := of_decide_eq_true hk
  have hpt := bulk_part (List.mem_of_getElem? hds)
  obtain ⟨fuel, hf⟩ := h
  rcases open_int_rows ht Try.underlying39 Try.underlying3 cellsRow cellsInt hf with ⟨hcs, _⟩ | ⟨x, l, c, A, L, C, Z, hcs, _, hl, hm, hx, hrow⟩
  · simp [Value.cells] at hcs
    obtain ⟨rfl, rfl, rfl⟩ := hcs
    exact ⟨[], ⟨rfl, RwsAt.nil _ _, by omega⟩, by omega, fun l h => by simp at h⟩
  · simp [Value.cells] at hcs
    obtain ⟨rfl, rfl, rfl⟩ := hcs
    simp only [Prod.mk.injEq] at hx
    obtain ⟨rfl, _⟩ := hx
    have hw := sized_slice hsz hts hds ht
    rw [bytesRow] at hw
    simp only [List.length_map, List.length_range, reachBytes] at hw
    have hall : Rows.uptoBulkAll ((List.range len).map fun r => (intRow .i64 (A r) (L r) (Z r) : DataW H)) ≤ 1048576 := by
      simp only [Rows.uptoBulk] at hpt
      omega
    have hN : len ≤ 1048576 := by
      have := bulk_length ((List.range len).map fun r => (intRow .i64 (A r) (L r) (Z r) : DataW H))
      rw [List.length_map, List.length_range] at this
      omega
    refine ⟨(List.range len).map fun r => (Z r).take (L r), ⟨by simp, fun v m hvm => ?_, by omega⟩, hN, fun m hm => ?_⟩
    rotate_left
    · obtain ⟨v, hv, rfl⟩ := List.mem_map.1 hm
      rw [List.mem_range] at hv
      obtain ⟨hc, h1, h2, h3, h4, h5, h6⟩ := hrow v (by omega)
      rw [List.length_take]
      have hmem : intRow .i64 (A v) (L v) (Z v) ∈ (List.range len).map fun r => (intRow .i64 (A r) (L r) (Z r) : DataW H) := List.mem_map.2 ⟨v, List.mem_range.2 hv, rfl⟩
      have hb1 := bulk_part hmem
      cases hA : A v with
      | none => have := h5 hA; omega
      | some y =>
        rw [hA] at hb1
        have e : (intRow .i64 (some y) (L v) (Z v) : DataW H) = .slice (lits .i64 ((Z v).take (L v))) (lits .i64 ((Z v).drop (L v))) := rfl
        rw [e] at hb1
        have h1 := bulk_length (H := H) (lits .i64 ((Z v).take (L v)))
        simp only [Rows.uptoBulk] at hb1
        simp only [lits, List.length_map, List.length_take] at h1
        simp only [lits] at hb1
        omega
    have hv : v < len := by
      have := (List.getElem?_eq_some_iff.1 hvm).1
      simpa using this
    rw [List.getElem?_map, List.getElem?_range hv] at hvm
    obtain rfl := Option.some.inj hvm
    obtain ⟨hc, h1, h2, h3, h4, h5, h6⟩ := hrow v (by omega)
    have hlen : ((Z v).take (L v)).length = L v := by rw [List.length_take]; omega
    have hC : C v ≤ 17592186043904 := by
      cases hA : A v with
      | none => have := h5 hA; omega
      | some y =>
        have hmem : intRow .i64 (A v) (L v) (Z v) ∈ (List.range len).map fun r => (intRow .i64 (A r) (L r) (Z r) : DataW H) := List.mem_map.2 ⟨v, List.mem_range.2 hv, rfl⟩
        rw [hA] at hmem
        have := sized_row hsz hts hds ht Try.underlying39 hmem
        rw [bytesInt] at this
        simp only [lits, List.length_map, List.length_take, List.length_drop, reachBytes] at this
        omega
    obtain ⟨xb, xo, sp⟩ := x
    have hsp : sp = none := by simpa [Addr.add] using World.cell?_spot (hrow 0 (by omega)).1
    subst hsp
    have e : ((⟨xb, xo, none⟩ : Addr).add v) = ⟨xb, xo + v, none⟩ := by
      by_cases h0 : v = 0 <;> simp [Addr.add, h0]
    rw [e] at hc
    refine ⟨xb, xo, A v, C v, rfl, by rw [hlen]; exact hc, ⟨rfl, fun i z hz => ?_, fun hA => ?_⟩, by rw [hlen]; omega, by rw [hlen]; exact h1, by omega⟩
    · rw [List.getElem?_take] at hz
      split at hz
      · rename_i hiL
        obtain ⟨y, hA⟩ : ∃ y, A v = some y := by
          cases hA : A v with
          | none => have := h5 hA; omega
          | some y => exact ⟨y, rfl⟩
        have hci := (h6 y hA).2 i (by omega)
        rw [List.getD_eq_getElem?_getD, hz] at hci
        obtain ⟨yb, yo, ysp⟩ := y
        have hc0 := (h6 _ hA).2 0 (by omega)
        have hsp : ysp = none := by simpa [Addr.add] using World.cell?_spot hc0
        subst hsp
        have e2 : ((⟨yb, yo, none⟩ : Addr).add i) = ⟨yb, yo + i, none⟩ := by
          by_cases h0 : i = 0 <;> simp [Addr.add, h0]
        rw [e2] at hci
        exact ⟨yb, yo, hA, hci⟩
      · cases hz
    · have := h5 hA
      rw [hlen]
      omega

end Go.Proofs.Ytjlfdkeklilafab
