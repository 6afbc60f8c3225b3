import Derived.Test.YtalfpbalekbinaaMg35
import Derived.Test.YtalfpbalekbinaaMg38
/-
  The document's Block.
-/
namespace Go.Proofs.Ytalfpbalekbinaa
open Go.RowKit Go.Sort

/-- 'append(v, e)', v a list of edges of one's own. -/
theorem wpList_pushE {ops : Array Oper} {rest : List Oper} {o : Oper} {a : Act} {Q : Exit → Act → World → Prop} (hgd : o.guard = none) (s x : Operand)
    (ho : o.op = .call { callee := .builtin .append, args := #[s, x], argTypes := #[22, 22] }) (W : World) (B : Nat) (v : Value) (l : List (Int × Int)) (y z : Int) (hown : OwnE W B v l)
    (hB : B ≤ W.heap.size) (hl : l.length ≤ 8796093022000) (hs : a.eval s = v) (hx : a.eval x = .slice (some ⟨W.heap.size, 0, none⟩) 1 1)
    (h : ∀ v' w', OwnE w' B v' (l ++ [(y, z)]) → Below B W w' → wpList Try.prog ops Q rest (a.put o.dst v') w') :
    wpList Try.prog ops Q (o :: rest) a (W.alloc (.cells #[.int .i64 y, .int .i64 z] 49)) := by
  obtain ⟨i0, hi, hz0, hz1, hz2⟩ := info_parts Try.infoEdge
  have hb0 : Below B W (W.alloc (.cells #[.int .i64 y, .int .i64 z] 49)) := (Below.refl _ _).alloc hB _
  refine wpList_append_own _ hgd s x 22 ho B 49 i0 (.agg #[.int .i64 0, .int .i64 0]) 2 16 Try.underlying22 hi hz0 hz1 hz2 rfl (by decide) _ _ _ hs (World.ownsRow.alloc hown _) ⟨W.heap.size, 0, none⟩ 1 1 [.int .i64 y, .int .i64 z] hx rfl (new_two_e _ _ rfl _ _ _) (by simp [Value.oneCell']) (by unfold maxLen; omega) (by omega) (by simp; omega) ?_
  intro v' w' hown' hg _
  have ho' : OwnE w' B v' (l ++ [(y, z)]) := by
    unfold OwnE
    rw [flatE_snoc, List.length_append]
    exact hown'
  exact h v' w' ho' (hb0.grown hg (by simp; omega) (fun b hb => (World.ownsRow.lt hown b hb).1))

/-- What the document's Block answers. -/
def RBlk (n k : Int) (es : List (Int × Int)) (w : World) (e : Ending) (w' : World) : Prop :=
  ((Si.valid n es = false ∧ e = .returned (.tuple #[noGraph, .slice none 0 0, .int .i64 1])) ∨
    ∃ m, Si.valid n es = true ∧ Bl.ClE n.toNat es m (fun _ _ _ => True) ∧
      (((k < 0 ∨ (Bl.cntB m es.length : Int) ≤ k) ∧ e = .returned (.tuple #[noGraph, .slice none 0 0, .int .i64 2])) ∨
        ∃ (kk : Nat) (ev nv : Value), k = (kk : Int) ∧ kk < Bl.cntB m es.length ∧ e = .returned (.tuple #[.agg #[.int .i64 ((Bl.vsTo es (Bl.numB m) k n.toNat).length : Int), ev], nv, .int .i64 0]) ∧
          OwnE w' w.heap.size ev (Bl.bkTo es (Bl.numB m) (Bl.vsTo es (Bl.numB m) k n.toNat) kk es.length) ∧ OwnZ w' w.heap.size nv (Bl.vsTo es (Bl.numB m) k n.toNat))) ∧ Below w.heap.size w w'

set_option maxRecDepth 100000 in
set_option maxHeartbeats 16000000 in
theorem rblock_any (n k : Int) (ao : Option Addr) (cap : Nat) (es : List (Int × Int)) (w : World) (he : EdgesAt w ao es) (hl : es.length ≤ 4611686018427387904) :
    Calls Try.prog 18 #[graphVal n ao es.length cap, .int .i64 k] w (RBlk n k es w) := by
  have HE := Nu.hid he
  unfold graphVal
  clear he
  obtain ⟨w0, hw0⟩ : ∃ w0, w0 = (w.alloc (.cells #[.int .i64 n, .slice ao es.length cap] 24)).alloc (.cells #[.int .i64 0, .slice none 0 0] 24) := ⟨_, rfl⟩
  have hb0 : Below w.heap.size w w0 := by rw [hw0]; exact ((Below.refl _ _).alloc (Nat.le_refl _) _).alloc (by simp) _
  have hR : w0.heap[w.heap.size + 1]? = some (.cells #[.int .i64 0, .slice none 0 0] 24 (0, 0)) := by
    have := heap_alloc_new (w.alloc (.cells #[.int .i64 n, .slice ao es.length cap] 24)) (.cells #[.int .i64 0, .slice none 0 0] 24)
    rw [hw0]
    simpa using this
  have hG : w0.heap[w.heap.size]? = some (.cells #[.int .i64 n, .slice ao es.length cap] 24 (0, 0)) := by
    rw [hw0, Below.heap_alloc _ _ _ (by simp)]
    exact heap_alloc_new w _
  have HR0 := Nu.hid hR
  have HG0 := Nu.hid hG
  have HB0 := Nu.hid hb0
  have HW0 := Nu.hid hw0
  clear hR hG hb0 hw0
  cases hv : Si.valid n es with
  | false =>
    have HOF := Nu.hid (of9_no (cap := cap) (HE.out.later HB0.out) hl hv)
    unfold graphVal at HOF
    have HV := Nu.hid hv
    clear hv
    go_enter Try.func18, Try.ntmps18
    go_wp2_with (go_at_call 11; rw [← HW0.out]; refine HOF.out.mono ?_; rintro e w1 ⟨rfl, hb⟩; refine Hid.out ?_)
    refine Nu.hid ?_
    obtain ⟨g0, g1, gf⟩ := pair_cells ((hb.block _ (lt_of_block HR0.out)).trans HR0.out)
    have HB1 := Nu.hid (HB0.out.trans (hb.mono HB0.out.size))
    clear hb
    go_wp2
    refine bodyPost_ret (v := .tuple #[noGraph, .slice none 0 0, .int .i64 1]) ?_ ?_ ?_
    · exact results_graph3 Try.results18 rfl _ _ (w.heap.size + 1) _ _ _ _ rfl rfl rfl (set_two g0 g1 _ _).1 (set_two g0 g1 _ _).2
    · rfl
    exact ⟨.inl ⟨HV.out, rfl⟩, (HB1.out.setCell (p := ⟨w.heap.size + 1, 0, none⟩) (by simp) _).setCell (p := ⟨w.heap.size + 1, 1, none⟩) (by simp) _⟩
  | true =>
    have HOF := Nu.hid (of9_yes (cap := cap) (HE.out.later HB0.out) hl hv)
    unfold graphVal at HOF
    go_enter Try.func18, Try.ntmps18
    go_wp2_with (go_at_call 11; rw [← HW0.out]; refine HOF.out.mono ?_; rintro e w1 ⟨m, g, rfl, hg, hig, hC, hb⟩; refine Hid.out ?_)
    refine Nu.hid ?_
    have HR1 := Nu.hid ((hb.block _ (lt_of_block HR0.out)).trans HR0.out)
    have HG1 := Nu.hid ((hb.block _ (lt_of_block HG0.out)).trans HG0.out)
    have HB1 := Nu.hid (HB0.out.trans (hb.mono HB0.out.size))
    have hsR := lt_of_block HR1.out
    clear hb HOF HR0 HG0
    have HV := Nu.hid hv
    have hval := Si.valid_iff.1 hv
    have hfew := hval.few
    have hlo := hval.lo
    have hhi := hval.hi
    obtain ⟨n, rfl⟩ : ∃ m : Nat, n = (m : Int) := ⟨n.toNat, by omega⟩
    have HC := Nu.hid hC
    have HIG := Nu.hid hig
    have hcl := Bl.cntB_le m es.length
    obtain ⟨c, hc⟩ : ∃ c, Bl.cntB m es.length = c := ⟨_, rfl⟩
    rw [hc] at hcl ⊢
    have HCC := Nu.hid hc
    clear hv hval hig hC hg hc
    by_cases hk0 : k < 0
    · obtain ⟨g0, g1, gf⟩ := pair_cells HR1.out
      go_wp2
      refine bodyPost_ret (v := .tuple #[noGraph, .slice none 0 0, .int .i64 2]) ?_ ?_ ?_
      · exact results_graph3 Try.results18 rfl _ _ (w.heap.size + 1) _ _ _ _ rfl rfl rfl (set_two g0 g1 _ _).1 (set_two g0 g1 _ _).2
      · rfl
      exact ⟨.inr ⟨m, HV.out, HC.out, .inl ⟨.inl hk0, rfl⟩⟩, (HB1.out.setCell (p := ⟨w.heap.size + 1, 0, none⟩) (by simp) _).setCell (p := ⟨w.heap.size + 1, 1, none⟩) (by simp) _⟩
    by_cases hkc : (c : Int) ≤ k
    · obtain ⟨g0, g1, gf⟩ := pair_cells HR1.out
      go_wp2
      refine bodyPost_ret (v := .tuple #[noGraph, .slice none 0 0, .int .i64 2]) ?_ ?_ ?_
      · exact results_graph3 Try.results18 rfl _ _ (w.heap.size + 1) _ _ _ _ rfl rfl rfl (set_two g0 g1 _ _).1 (set_two g0 g1 _ _).2
      · rfl
      exact ⟨.inr ⟨m, HV.out, HC.out, .inl ⟨.inr (by rw [HCC.out]; exact hkc), rfl⟩⟩, (HB1.out.setCell (p := ⟨w.heap.size + 1, 0, none⟩) (by simp) _).setCell (p := ⟨w.heap.size + 1, 1, none⟩) (by simp) _⟩
    obtain ⟨kk, rfl⟩ : ∃ kk : Nat, k = (kk : Int) := ⟨k.toNat, by omega⟩
    have HNM : Hid (∀ W, Below w1.heap.size w1 W → IntsAt W (some ⟨g, 0, none⟩) (Bl.nums es.length (Bl.numB m))) := fun W hW j x hj => ⟨g, 0, rfl, by rw [Nat.zero_add]; exact ((HIG.out.later hW).cell hj)⟩
    obtain ⟨f, hf⟩ : ∃ f, Bl.numB m = f := ⟨_, rfl⟩
    have HF := Nu.hid hf
    rw [hf] at HNM
    clear hf
    go_wp2
    go_loopw [10, 11] (fun lv cv wr => ∃ v : Nat, v ≤ n ∧ cv = .int .i64 (v : Int) ∧ OwnZ wr w1.heap.size lv (Bl.vsTo es f (kk : Int) v) ∧ Below w1.heap.size w1 wr) (fun _ cv _ => n - (intOf cv).toNat)
    case atStart => exact ⟨0, Nat.zero_le _, rfl, OwnZ.nil _ _, Below.refl _ _⟩
    case round =>
      obtain ⟨v, hvn, rfl, hown, hb⟩ := hrel
      have HOWN := Nu.hid hown
      have HB := Nu.hid hb
      have hsz := hb.size
      obtain ⟨x0, x1, -⟩ := pair_cells ((hb.block _ (lt_of_block HG1.out)).trans HG1.out)
      by_cases hvn' : v < n
      · have hlti : (v : Int) < (n : Int) := by omega
        clear hown hb
        go_wp2
        clear x0 x1
        go_loopw [12, 13] (fun ch cv wr => ∃ j : Nat, j ≤ es.length ∧ cv = .int .i64 (j : Int) ∧ ch = .bool (Bl.hitB es f (v : Int) kk j) ∧ OwnZ wr w1.heap.size u10 (Bl.vsTo es f (kk : Int) v) ∧ Below w1.heap.size w1 wr) (fun _ cv _ => es.length - (intOf cv).toNat)
        case atStart => exact ⟨0, Nat.zero_le _, rfl, by rw [Bl.hitB_zero], HOWN.out, HB.out⟩
        case round =>
          clear HOWN HB
          obtain ⟨j, hj, rfl, rfl, hown, hb⟩ := hrel
          have HOWN := Nu.hid hown
          have HB := Nu.hid hb
          have hbw := HB1.out.trans (hb.mono HB1.out.size)
          by_cases hjn : j < es.length
          · have hljn : (j : Int) < (es.length : Int) := by omega
            have hj0 : (0 : Int) ≤ (j : Int) := by omega
            obtain ⟨⟨p1, p2⟩, hq⟩ : ∃ q, es[j]? = some q := ⟨_, List.getElem?_eq_getElem hjn⟩
            obtain ⟨b, o, rfl, -, -⟩ := HE.out j _ hq
            obtain ⟨c0, c1⟩ := (HE.out.later hbw).two hq
            obtain ⟨x0, x1, -⟩ := pair_cells ((hb.block _ (lt_of_block HG1.out)).trans HG1.out)
            clear hown hb hbw
            by_cases hh : p1 = (v : Int) ∨ p2 = (v : Int)
            · go_wp2_with (go_at_call 34; refine (at9_yes hh _).mono ?_; rintro e wF ⟨rfl, hbF⟩; refine Hid.out ?_)
              refine Nu.hid ?_
              have HOF := Nu.hid (HOWN.out.later hbF)
              have HBF := Nu.hid (HB.out.trans (hbF.mono HB.out.size))
              obtain ⟨nb, no', eno, d0⟩ := (HNM.out wF HBF.out) j _ (Bl.nums_at (f := f) hjn)
              cases eno
              rw [Nat.zero_add] at d0
              clear hbF x0 x1 c0 c1
              by_cases hf : f j = kk
              · have hd : ((f j : Int) == (kk : Int)) = true := by simp [hf]
                have HY := Nu.hid (Bl.hitB_yes hq hf hh)
                clear hf hh hq
                go_wp2
                go_roundw
                case rel => exact ⟨j + 1, by omega, by go_num, by rw [HY.out], HOF.out, HBF.out⟩
                case measure => simp [intOf]; omega
              · have hd : ((f j : Int) == (kk : Int)) = false := by simp; omega
                have HY := Nu.hid (Bl.hitB_no (f := f) (v := (v : Int)) (k := kk) hq (fun h => hf h.1))
                clear hf hh hq
                go_wp2
                go_roundw
                case rel => exact ⟨j + 1, by omega, by go_num, by rw [HY.out], HOF.out, HBF.out⟩
                case measure => simp [intOf]; omega
            · go_wp2_with (go_at_call 34; refine (at9_no hh _).mono ?_; rintro e wF ⟨rfl, hbF⟩; refine Hid.out ?_)
              refine Nu.hid ?_
              have HOF := Nu.hid (HOWN.out.later hbF)
              have HBF := Nu.hid (HB.out.trans (hbF.mono HB.out.size))
              obtain ⟨nb, no', eno, d0⟩ := (HNM.out wF HBF.out) j _ (Bl.nums_at (f := f) hjn)
              cases eno
              rw [Nat.zero_add] at d0
              have HY := Nu.hid (Bl.hitB_no (f := f) (v := (v : Int)) (k := kk) hq (fun h => hh h.2))
              clear hbF x0 x1 c0 c1 hh hq
              by_cases hf : f j = kk
              · have hd : ((f j : Int) == (kk : Int)) = true := by simp [hf]
                clear hf
                go_wp2
                go_roundw
                case rel => exact ⟨j + 1, by omega, by go_num, by rw [HY.out], HOF.out, HBF.out⟩
                case measure => simp [intOf]; omega
              · have hd : ((f j : Int) == (kk : Int)) = false := by simp; omega
                clear hf
                go_wp2
                go_roundw
                case rel => exact ⟨j + 1, by omega, by go_num, by rw [HY.out], HOF.out, HBF.out⟩
                case measure => simp [intOf]; omega
          · have hljn : ¬ (j : Int) < (es.length : Int) := by omega
            obtain rfl : j = es.length := by omega
            have hbz := hb.size
            have hvl := Bl.vsTo_length (es := es) (f := f) (kk : Int) v
            clear hown hb hbw
            cases hh : Bl.hitB es f (v : Int) kk es.length with
            | true =>
              have HY := Nu.hid (Bl.vsTo_yes hh)
              clear hh
              go_wp2_with (at_builtin; refine wpList_push rfl _ _ rfl _ w1.heap.size _ (Bl.vsTo es f (kk : Int) v) (v : Int) HOWN.out hbz (Nat.le_trans hvl (by omega)) rfl rfl ?_; refine Hid.out ?_)
              refine Nu.hid ?_
              intro v' w6 ho6 hg6 hat6 hb6
              have HO6 := Nu.hid ho6
              have HB6 := Nu.hid (HB.out.trans hb6)
              clear ho6 hg6 hat6 hb6
              go_wp2
              go_roundw
              case rel => exact ⟨v + 1, by omega, by go_num, by rw [HY.out]; exact HO6.out, HB6.out⟩
              case measure => simp [intOf]; omega
            | false =>
              have HY := Nu.hid (Bl.vsTo_no hh)
              clear hh
              go_wp2
              go_roundw
              case rel => exact ⟨v + 1, by omega, by go_num, by rw [HY.out]; exact HOWN.out, HB.out⟩
              case measure => simp [intOf]; omega
      · have hlti : ¬ (v : Int) < (n : Int) := by omega
        obtain rfl : v = n := by omega
        obtain ⟨va, vc, hv3, hat, -⟩ := hown.form
        have hvl := Bl.vsTo_length (es := es) (f := f) (kk : Int) v
        obtain ⟨vs, hvs⟩ : ∃ vs, Bl.vsTo es f (kk : Int) v = vs := ⟨_, rfl⟩
        rw [hvs] at hv3 hat hvl HOWN
        have HVS := Nu.hid hvs
        have HAT := Nu.hid hat
        subst hv3
        clear hown hb hvs hat
        go_wp2
        obtain ⟨w5, hw5⟩ : ∃ w5, w5 = wr := ⟨_, rfl⟩
        subst hw5
        clear x0 x1
        go_loopw [15, 16] (fun lv cv wr => ∃ j : Nat, j ≤ es.length ∧ cv = .int .i64 (j : Int) ∧ OwnE wr w5.heap.size lv (Bl.bkTo es f vs kk j) ∧ Below w5.heap.size w5 wr) (fun _ cv _ => es.length - (intOf cv).toNat)
        case atStart => exact ⟨0, Nat.zero_le _, rfl, OwnE.nil _ _, Below.refl _ _⟩
        case round =>
          obtain ⟨j, hj, rfl, hOE, hb5⟩ := hrel
          have HOE := Nu.hid hOE
          have HB5 := Nu.hid hb5
          have hb1r := HB.out.trans (hb5.mono HB.out.size)
          have hbw := HB1.out.trans (hb1r.mono HB1.out.size)
          have hbz := hb5.size
          have hbl := Bl.bkTo_length (es := es) (f := f) vs kk j
          by_cases hjn : j < es.length
          · have hljn : (j : Int) < (es.length : Int) := by omega
            have hj0 : (0 : Int) ≤ (j : Int) := by omega
            obtain ⟨⟨p1, p2⟩, hq⟩ : ∃ q, es[j]? = some q := ⟨_, List.getElem?_eq_getElem hjn⟩
            obtain ⟨b, o, rfl, -, -⟩ := HE.out j _ hq
            obtain ⟨c0, c1⟩ := (HE.out.later hbw).two hq
            obtain ⟨x0, x1, -⟩ := pair_cells ((hb1r.block _ (lt_of_block HG1.out)).trans HG1.out)
            obtain ⟨nb, no', eno, d0⟩ := (HNM.out wr hb1r) j _ (Bl.nums_at (f := f) hjn)
            cases eno
            rw [Nat.zero_add] at d0
            have HPL : Hid (∀ x, Calls Try.prog 35 #[.slice va vs.length vc, .int .i64 x] wr fun e w' => e = .returned (.int .i64 (Bl.place vs x)) ∧ w' = wr) := fun x => place9_any va vc vs x wr (HAT.out.later hb5) (by omega)
            clear hOE hb5 hb1r hbw
            by_cases hf : f j = kk
            · have hd : ((f j : Int) == (kk : Int)) = true := by simp [hf]
              have HY := Nu.hid (Bl.bkTo_yes (vs := vs) hq hf)
              clear hf hq
              go_wp2_with (first | (go_at_call 35; refine (HPL.out _).mono ?_; rintro e w6 ⟨rfl, hw6⟩; obtain rfl := hw6.symm; clear hw6) | (at_builtin; refine wpList_pushE rfl _ _ rfl _ w5.heap.size _ (Bl.bkTo es f vs kk j) _ _ HOE.out hbz (Nat.le_trans hbl (by omega)) rfl rfl ?_; refine Hid.out ?_))
              refine Nu.hid ?_
              intro v' w6 ho6 hb6
              have HO6 := Nu.hid ho6
              have HB6 := Nu.hid (HB5.out.trans hb6)
              clear ho6 hb6
              go_wp2
              go_roundw
              case rel => exact ⟨j + 1, by omega, by go_num, by rw [HY.out]; exact HO6.out, HB6.out⟩
              case measure => simp [intOf]; omega
            · have hd : ((f j : Int) == (kk : Int)) = false := by simp; omega
              have HY := Nu.hid (Bl.bkTo_no (es := es) (vs := vs) hf)
              clear hf hq
              go_wp2
              go_roundw
              case rel => exact ⟨j + 1, by omega, by go_num, by rw [HY.out]; exact HOE.out, HB5.out⟩
              case measure => simp [intOf]; omega
          · have hljn : ¬ (j : Int) < (es.length : Int) := by omega
            obtain rfl : j = es.length := by omega
            have hR : wr.heap[w.heap.size + 1]? = some (.cells #[.int .i64 0, .slice none 0 0] 24 (0, 0)) := (hb1r.block _ (lt_of_block HR1.out)).trans HR1.out
            obtain ⟨g0, g1, gf⟩ := pair_cells hR
            obtain ⟨ea, ec, hev, -, -⟩ := hOE.form
            subst hev
            have HEND : Hid (RBlk (v : Int) (kk : Int) es w (.returned (.tuple #[.agg #[.int .i64 (vs.length : Int), .slice ea (Bl.bkTo es f vs kk es.length).length ec], .slice va vs.length vc, .int .i64 0])) ((wr.setCell ⟨w.heap.size + 1, 0, none⟩ (.int .i64 (vs.length : Int))).setCell ⟨w.heap.size + 1, 1, none⟩ (.slice ea (Bl.bkTo es f vs kk es.length).length ec))) := by
              refine ⟨.inr ⟨m, HV.out, HC.out, .inr ⟨kk, .slice ea (Bl.bkTo es f vs kk es.length).length ec, .slice va vs.length vc, rfl, by rw [HCC.out]; omega, ?_, ?_, ?_⟩⟩, (hbw.setCell (p := ⟨w.heap.size + 1, 0, none⟩) (by simp) _).setCell (p := ⟨w.heap.size + 1, 1, none⟩) (by simp) _⟩
              · rw [HF.out, Int.toNat_natCast, HVS.out]
              · rw [HF.out, Int.toNat_natCast, HVS.out]
                have hs5 := HB.out.size
                have hs1 := HB1.out.size
                exact hOE.set2 (b := w.heap.size + 1) (by omega) _ _
              · rw [HF.out, Int.toNat_natCast, HVS.out]
                refine ((HOWN.out.later hb5).same fun b hb hl => ?_).lower HB1.out.size
                have := (World.ownsRow.lt HOWN.out b hb).1
                rw [heap_setCell_other _ ⟨w.heap.size + 1, 1, none⟩ b _ (by simp; omega), heap_setCell_other _ ⟨w.heap.size + 1, 0, none⟩ b _ (by simp; omega)]
            obtain ⟨R, hRe⟩ : ∃ R, Bl.bkTo es f vs kk es.length = R := ⟨_, rfl⟩
            rw [hRe] at HEND hbl ⊢
            clear hOE hb5 hb1r hbw hR hRe HOE
            go_wp2
            refine bodyPost_ret (v := .tuple #[.agg #[.int .i64 (vs.length : Int), .slice ea R.length ec], .slice va vs.length vc, .int .i64 0]) ?_ ?_ ?_
            · exact results_graph3 Try.results18 rfl _ _ (w.heap.size + 1) _ _ _ _ rfl rfl rfl (set_two g0 g1 _ _).1 (set_two g0 g1 _ _).2
            · rfl
            exact HEND.out
end Go.Proofs.Ytalfpbalekbinaa
