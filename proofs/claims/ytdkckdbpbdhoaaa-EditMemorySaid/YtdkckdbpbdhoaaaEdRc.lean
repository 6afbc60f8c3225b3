/-
  The document's own Sub.
-/
import Derived.Test.YtdkckdbpbdhoaaaEdR1
import Derived.Test.YtdkckdbpbdhoaaaMgC
import Derived.Test.YtdkckdbpbdhoaaaMgH
import Derived.Test.YtdkckdbpbdhoaaaMgB
import Derived.Test.YtdkckdbpbdhoaaaMgE
namespace Go.Proofs.Ytdkckdbpbdhoaaa
open Go.RowKit Go.Sort

theorem run_pushE14 {U : World} (B : Nat) (v : Value) (l : List (Int × Int)) (y z : Int) (hR : OwnE U B v l) (hB : B ≤ U.heap.size) (g : Nat) (hg : U.heap[g]? = some (.cells #[.int .i64 y, .int .i64 z] 26 (0, 0))) (hl : l.length ≤ 8796093022000) :
    ∃ v' w', (∀ (o : Oper) (ev : Operand → Value) (s x : Operand), o.op = .call { callee := .builtin .append, args := #[s, x], argTypes := #[22, 22] } → o.type = 22 → ev s = v → ev x = .slice (some ⟨g, 0, none⟩) 1 1 → (execOp ev o).run Try.prog U = .ok (.value v') w') ∧ OwnE w' B v' (l ++ [(y, z)]) ∧ U.grownBy w' v.ownBlock := by
  obtain ⟨i1, hi1, hy0, hy1, hy2⟩ := info_parts Try.infoEdge
  obtain ⟨v', w', hr, h2, h3, _, h5⟩ := run_append_own_at (P := Try.prog) U B 22 22 26 i1 (.agg #[.int .i64 0, .int .i64 0]) 2 16 Try.underlying22 hi1 hy0 hy1 hy2 rfl (by decide) v l.length (flatE l) hR ⟨g, 0, none⟩ 1 1 [.int .i64 y, .int .i64 z] rfl (World.news_of_block hg) (by simp [Value.oneCell']) (by unfold maxLen; omega) (by omega) hB
  refine ⟨v', w', fun o ev s x ho ht hs hx => ?_, ?_, h3⟩
  · unfold execOp
    simp only [ho, ht, resolve, invoke, builtin, Sem.run_bind, Sem.run_pure, Result.andThen_ok, List.map_toArray, List.map_cons, List.map_nil, hs, hx, hr]
  · unfold OwnE
    rw [flatE_snoc, List.length_append]
    exact h2

namespace Ed
/-- What lies in memory by which have come up. -/
def psC (A w1 w2 w3 : World) (k9 k10 k13 : Nat) (L : Nat → Bool) (V : World) : Prop := if L k13 = true then V = w3 else if L k10 = true then V = w2 else if L k9 = true then V = w1 else V = A
theorem psC.other {A w1 w2 w3 : World} {k9 k10 k13 : Nat} {L : Nat → Bool} {V : World} (h : psC A w1 w2 w3 k9 k10 k13 L V) {i : Nat} (h1 : i ≠ k9) (h2 : i ≠ k10) (h3 : i ≠ k13) : psC A w1 w2 w3 k9 k10 k13 (AnyOrd.updB L i) V := by
  have e1 : AnyOrd.updB L i k9 = L k9 := if_neg (fun e => h1 e.symm)
  have e2 : AnyOrd.updB L i k10 = L k10 := if_neg (fun e => h2 e.symm)
  have e3 : AnyOrd.updB L i k13 = L k13 := if_neg (fun e => h3 e.symm)
  unfold psC at h ⊢
  rw [e1, e2, e3]
  exact h
end Ed

/-- The list under way, in its own box O; the marks in block G. -/
structure SbW (w : World) (n : Int) (ao : Option Addr) (cap : Nat) (es : List (Int × Int)) (G O : Nat) (bs : List Bool) (lv : Value) (l : List (Int × Int)) (W : World) : Prop where
  bx : Bx1 w n ao cap es W
  out : W.heap[O]? = some (.cells #[.int .i64 n, lv] 24 (0, 0))
  own : OwnE W (O + 1) lv l
  mrk : BlsBlk W G bs
  lo : w.heap.size + 1 < G ∧ G < O
section
variable {w W W' : World} {n : Int} {ao : Option Addr} {cap G O : Nat} {es : List (Int × Int)} {bs : List Bool} {lv : Value} {l : List (Int × Int)}
theorem SbW.later (h : SbW w n ao cap es G O bs lv l W) (hb : Below W.heap.size W W') : SbW w n ao cap es G O bs lv l W' :=
  ⟨h.bx.later hb, (hb.block _ (lt_of_block h.out)).trans h.out, h.own.below hb (Nat.le_refl _), h.mrk.later hb, h.lo⟩
theorem SbW.push {v' : Value} {p : Int × Int} (h : SbW w n ao cap es G O bs lv l W) (h1 : OwnE W' (O + 1) v' (l ++ [p])) (h2 : W.grownBy W' lv.ownBlock) : SbW w n ao cap es G O bs v' (l ++ [p]) (W'.setCell ⟨O, 1, none⟩ v') ∧ W'.heap[O]? = some (.cells #[.int .i64 n, lv] 24 (0, 0)) ∧ Bx1 w n ao cap es W' ∧ BlsBlk W' G bs := by
  have hO := lt_of_block h.out
  have hb : Below (O + 1) W W' := (Below.refl (O + 1) W).grown h2 (by omega) (fun b hb => (World.ownsRow.lt h.own b hb).1)
  have hlo := h.lo
  have k1 : W'.heap[O]? = some (.cells #[.int .i64 n, lv] 24 (0, 0)) := (hb.block O (by omega)).trans h.out
  have k2 := h.bx.below hb (by omega)
  have k3 : BlsBlk W' G bs := (hb.block G (by omega)).trans h.mrk
  refine ⟨⟨⟨k2.low.setCell (by simp; omega) _, (heap_setCell_other _ ⟨O, 1, none⟩ _ _ (by simp; omega)).trans k2.box, (heap_setCell_other _ ⟨O, 1, none⟩ _ _ (by simp; omega)).trans k2.res⟩, ?_, ?_, (heap_setCell_other _ ⟨O, 1, none⟩ _ _ (by simp; omega)).trans k3, h.lo⟩, k1, k2, k3⟩
  · rw [heap_setCell_same W' O 1 _ _ _ k1]
    simp
  · refine ⟨h1.1, ?_⟩
    rcases h1.2 with h3 | ⟨g, c', cur, e, hgB, hh, hr⟩
    · exact .inl h3
    · refine .inr ⟨g, c', cur, e, hgB, ?_, hr⟩
      rw [heap_setCell_other _ ⟨O, 1, none⟩ g _ (by simp; omega)]
      exact hh
end

set_option maxRecDepth 100000 in
set_option maxHeartbeats 8000000 in
theorem rsub_any (n : Int) (lo : Option Addr) (q lc : Nat) (l : List Int) (ao : Option Addr) (cap : Nat) (es : List (Int × Int)) (w : World) (he : EdgesAt w ao es) (hl : es.length ≤ 4611686018427387904) (hq : l.length = q) (hat : IntsAt w lo l) (hlq : q ≤ 4611686018427387904) :
    Calls Try.prog 21 #[graphVal n ao es.length cap, .slice lo q lc] w (AnsP (Ed.sub n es l) w) := by
  have HE := Nu.hid he
  have hva := fun W (hb : Below w.heap.size w W) => rvalid_any n ao cap es W (he.later hb) hl
  have hB0 := Bx1.start (w := w) (n := n) (ao := ao) (cap := cap) (es := es)
  unfold graphVal at hva ⊢
  have HVA := Nu.hid hva
  have HB0 := Nu.hid hB0
  have HAT := Nu.hid hat
  have HQ := Nu.hid hq
  clear he hva hB0 hat hq
  cases hv : Si.valid n es with
  | false =>
    have hr : Ed.sub n es l = (0, [], 1) := by unfold Ed.sub; rw [if_pos hv]
    rw [hr]
    rw [hv] at HVA
    clear hv hr
    go_enter Try.func21, Try.ntmps21
    go_wp2_with (go_at_call 33; refine (HVA.out _ HB0.out.low).mono ?_; rintro e w1 ⟨rfl, hb⟩; refine Hid.out ?_)
    refine Nu.hid ?_
    have HB1 := Nu.hid (HB0.out.later hb)
    clear hb
    obtain ⟨g0, g1⟩ := HB1.out.cells
    have hs1 := HB1.out.size
    have hs0 : w.heap.size < w1.heap.size := by omega
    obtain ⟨r0, r1⟩ := HB1.out.rcells
    have f0 := HB1.out.free 0
    have f1 := HB1.out.free 1
    go_wp2
    obtain ⟨hb, s0, s1⟩ := HB1.out.store (.int .i64 0) (.slice none 0 0)
    refine bodyPost_ret (v := .tuple #[.agg #[.int .i64 0, .slice none 0 0], .int .i64 1]) (by simp [results, Try.results21, go_sem, s0, s1]) rfl ?_
    exact ⟨_, rfl, OwnE.nil _ _, hb⟩
  | true =>
    have hval := Si.valid_iff.1 hv
    have hfew := hval.few
    have hlo := hval.lo
    have hhi := hval.hi
    have HVAL := Nu.hid hval
    have HV := Nu.hid hv
    rw [hv] at HVA
    clear hv hval
    obtain ⟨i0, hi, hz0, hz1, hz2⟩ := info_parts Try.infoBoolE
    have hel : (es.length : Int) ≤ 4194304 := by omega
    clear hlo hhi hl
    go_enter Try.func21, Try.ntmps21
    go_wp2_with (go_at_call 33; refine (HVA.out _ HB0.out.low).mono ?_; rintro e w1 ⟨rfl, hb⟩; refine Hid.out ?_)
    refine Nu.hid ?_
    have HB1 := Nu.hid (HB0.out.later hb)
    clear hb
    obtain ⟨g0, g1⟩ := HB1.out.cells
    have hs1 := HB1.out.size
    have hs0 : w.heap.size < w1.heap.size := by omega
    obtain ⟨r0, r1⟩ := HB1.out.rcells
    have f0 := HB1.out.free 0
    have f1 := HB1.out.free 1
    go_wp2_with (at_make; refine wpList_make_full _ rfl _ _ 68 rfl w1.heap.size 4 i0 (.bool false) 1 Try.underlying68 hi hz0 hz1 _ _ _ _ es.length rfl rfl rfl rfl (by rw [hz2]; omega) (by unfold maxLen; omega) (Nat.le_refl _) ?_; refine Hid.out ?_)
    refine Nu.hid ?_
    intro w3 hrow3 hg3
    have HBL : Hid (BlsBlk w3 w1.heap.size (List.replicate es.length false)) := by
      refine bls_of_row (B := w1.heap.size) (n := es.length) ?_
      rw [← made_bls]
      simpa using hrow3
    have hb3 : Below w1.heap.size w1 w3 := (Below.refl _ _).grown hg3 (Nat.le_refl _) (fun j hj => by cases hj)
    have HB3 := Nu.hid (HB1.out.later hb3)
    clear hrow3 hg3 hb3 g0 g1 r0 r1 f0 f1
    go_wp2
    go_loopw [7] (fun c wr => ∃ (k : Nat) (L : List Bool), k ≤ q ∧ c = .int .i64 k ∧ L = Ed.mks es.length l k ∧ (∀ (i : Nat) (x : Int), i < k → l[i]? = some x → 0 ≤ x ∧ x < (es.length : Int)) ∧ BlsBlk wr w1.heap.size L ∧ Bx1 w n ao cap es wr) (fun c _ => q - (intOf c).toNat)
    case atStart => exact ⟨0, _, Nat.zero_le _, rfl, rfl, fun i x h => by omega, HBL.out, HB3.out⟩
    case round =>
      obtain ⟨k, L, hk, rfl, hL, hin, hbls, hbx⟩ := hrel
      have HBLS := Nu.hid hbls
      have HBX := Nu.hid hbx
      have HL := Nu.hid hL
      have HIN := Nu.hid hin
      have hbs := hbls.lt
      obtain ⟨g0, g1⟩ := hbx.cells
      obtain ⟨r0, r1⟩ := hbx.rcells
      have f0 := hbx.free 0
      have f1 := hbx.free 1
      have hsx := hbx.size
      have hsx0 : w.heap.size < wr.heap.size := by omega
      by_cases hlt : k < q
      · have hlti : (k : Int) < (q : Int) := by omega
        have hk0 : (0 : Int) ≤ (k : Int) := by omega
        have hkl : k < l.length := by rw [HQ.out]; exact hlt
        obtain ⟨x, hx⟩ : ∃ x, l[k]? = some x := ⟨_, List.getElem?_eq_getElem hkl⟩
        obtain ⟨b, o, rfl, c0⟩ := (HAT.out.later hbx.low) k x hx
        have hbl : b < wr.heap.size := block_lt_of_cell c0
        have HX := Nu.hid hx
        clear hin hx hbx
        by_cases hxi : 0 ≤ x ∧ x < (es.length : Int)
        · obtain ⟨xv, rfl⟩ : ∃ v : Nat, x = (v : Int) := ⟨x.toNat, by omega⟩
          have hx0 : (0 : Int) ≤ (xv : Int) := hxi.1
          have hx1 : (xv : Int) < (es.length : Int) := hxi.2
          have hd0 : ¬ ((xv : Int) < 0) := by omega
          have hd1 : ¬ ((es.length : Int) ≤ (xv : Int)) := by omega
          obtain ⟨y, hy⟩ : ∃ y, L[xv]? = some y := ⟨_, List.getElem?_eq_getElem (by rw [hL, Ed.mks_length]; omega)⟩
          have y0 := hbls.cell hy
          have yf := hbls.free xv
          have HA2 := Nu.hid (hbls.set xv true)
          have HXI := Nu.hid hxi
          have HBX2 : Hid (Bx1 w n ao cap es (wr.setCell ⟨w1.heap.size, xv, none⟩ (.bool true))) := ⟨HBX.out.low.setCell (by simp; omega) _, (heap_setCell_other _ ⟨w1.heap.size, xv, none⟩ _ _ (by simp; omega)).trans HBX.out.box, (heap_setCell_other _ ⟨w1.heap.size, xv, none⟩ _ _ (by simp; omega)).trans HBX.out.res⟩
          clear hbls hL hy hxi
          go_wp2
          go_roundw
          case rel =>
            refine ⟨k + 1, _, by omega, by go_num, ?_, fun i z hi hz => ?_, HA2.out, HBX2.out⟩
            · have e : l.getD k 0 = (xv : Int) := by rw [List.getD_eq_getElem?_getD, HX.out]; rfl
              show _ = (Ed.mks es.length l k).set _ _
              rw [e, ← HL.out]
              rfl
            · by_cases hik : i = k
              · subst hik
                rw [HX.out] at hz
                cases hz
                exact HXI.out
              · exact HIN.out i z (by omega) hz
          case measure => simp [intOf]; omega
        · have HR : Hid (Ed.sub n es l = (0, [], 2)) := by
            show _ = _
            unfold Ed.sub
            rw [if_neg (by rw [HV.out]; simp), if_pos (fun h => hxi (h x (List.mem_of_getElem? HX.out)))]
          clear hbls hL
          by_cases hxn : x < 0
          · clear hxi
            go_wp2
            obtain ⟨hb, s0, s1⟩ := HBX.out.store (.int .i64 0) (.slice none 0 0)
            refine bodyPost_ret (v := .tuple #[.agg #[.int .i64 0, .slice none 0 0], .int .i64 2]) (by simp [results, Try.results21, go_sem, s0, s1]) rfl ?_
            rw [HR.out]
            exact ⟨_, rfl, OwnE.nil _ _, hb⟩
          · have hxb : (es.length : Int) ≤ x := by omega
            clear hxi
            go_wp2
            obtain ⟨hb, s0, s1⟩ := HBX.out.store (.int .i64 0) (.slice none 0 0)
            refine bodyPost_ret (v := .tuple #[.agg #[.int .i64 0, .slice none 0 0], .int .i64 2]) (by simp [results, Try.results21, go_sem, s0, s1]) rfl ?_
            rw [HR.out]
            exact ⟨_, rfl, OwnE.nil _ _, hb⟩
      · have hd : ¬ ((k : Int) < (q : Int)) := by omega
        have hkq : k = l.length := by rw [HQ.out]; omega
        have HR : Hid (Ed.sub n es l = (n, Ed.sel L es, 0)) := by
          show _ = _
          unfold Ed.sub
          rw [if_neg (by rw [HV.out]; simp), if_neg, hL, hkq]
          · rfl
          · intro h
            refine h fun x hx => ?_
            obtain ⟨i, hi, e⟩ := List.mem_iff_getElem.1 hx
            exact hin i x (by omega) (by rw [← e]; exact List.getElem?_eq_getElem hi)
        have hll : L.length = es.length := by rw [hL, Ed.mks_length]
        have HLLn := Nu.hid hll
        have HS0 : Hid (SbW w n ao cap es w1.heap.size wr.heap.size L (.slice none 0 0) [] (wr.alloc (.cells #[.int .i64 n, .slice none 0 0] 24))) := ⟨HBX.out.later ((Below.refl _ _).alloc (Nat.le_refl _) _), heap_alloc_new wr _, OwnE.nil _ _, HBLS.out.later ((Below.refl _ _).alloc (Nat.le_refl _) _), by omega⟩
        obtain ⟨O, hO⟩ : ∃ O, O = wr.heap.size := ⟨_, rfl⟩
        clear hin hL hbls hbx hkq hll r0 r1 f0 f1
        go_wp2
        generalize wr.alloc (.cells #[.int .i64 n, .slice none 0 0] 24) = wa at HS0 ⊢
        rw [← hO] at HS0 ⊢
        clear hO g0 g1 hsx hsx0 hbs
        go_loopw [9] (fun c wt => ∃ (i : Nat) (a : Option Addr) (cc : Nat), i ≤ es.length ∧ c = .int .i64 i ∧ SbW w n ao cap es w1.heap.size O L (.slice a (Ed.sel L (es.take i)).length cc) (Ed.sel L (es.take i)) wt) (fun c _ => es.length - (intOf c).toNat)
        case atStart => exact ⟨0, none, 0, Nat.zero_le _, rfl, by cases L with | nil => exact HS0.out | cons b _ => cases b <;> exact HS0.out⟩
        case round =>
          obtain ⟨i, a, c, hil, rfl, hH⟩ := hrel
          have H := Nu.hid hH
          obtain ⟨g0, g1⟩ := hH.bx.cells
          obtain ⟨y0, y1, yf⟩ := pair_cells hH.out
          have hsO := lt_of_block hH.out
          have hlo := hH.lo
          have hsG : w1.heap.size < wr.heap.size := hH.mrk.lt
          have hsg : w.heap.size < wr.heap.size := by omega
          by_cases hin : i < es.length
          · have hili : (i : Int) < (es.length : Int) := by omega
            have hi0 : (0 : Int) ≤ (i : Int) := by omega
            obtain ⟨⟨p1, p2⟩, hq⟩ : ∃ q, es[i]? = some q := ⟨_, List.getElem?_eq_getElem hin⟩
            obtain ⟨b, o, rfl, c0, c1⟩ := (HE.out.later hH.bx.low) i _ hq
            dsimp only at c0 c1
            obtain ⟨y, hy⟩ : ∃ y, L[i]? = some y := ⟨_, List.getElem?_eq_getElem (by rw [HLLn.out]; exact hin)⟩
            have m0 := hH.mrk.cell hy
            have HT := Nu.hid (Ed.sel_take L es i _ y hq hy)
            have HQE := Nu.hid hq
            cases y with
            | false =>
              clear hH hq hy
              go_wp2
              go_roundw
              case rel => exact ⟨i + 1, a, c, by omega, by go_num, by rw [HT.out]; simpa using H.out⟩
              case measure => simp [intOf]; omega
            | true =>
              obtain ⟨l1, hl1⟩ : ∃ l1, Ed.sel L (es.take i) = l1 := ⟨_, rfl⟩
              have hll1 : l1.length ≤ 4194304 := by
                rw [← hl1]
                refine Nat.le_trans (Ed.sel_sub _ _).length_le ?_
                rw [List.length_take]
                omega
              rw [hl1] at H HT y1
              have HS : Hid (∀ U, Below wr.heap.size wr U → (U.cell? ⟨O, 1, none⟩ = some (.slice a l1.length c) ∧ U.cell? ⟨w.heap.size, 1, none⟩ = some (.slice (some ⟨b, o, none⟩) es.length cap) ∧ U.cell? ⟨b, o + i * 2, none⟩ = some (.int .i64 p1) ∧ U.cell? ⟨b, o + i * 2 + 1, none⟩ = some (.int .i64 p2))) := fun U hU => by
                have h1 := H.out.later hU
                exact ⟨(pair_cells h1.out).2.1, h1.bx.cells.2, (hU.cell (p := ⟨b, o + i * 2, none⟩) (block_lt_of_cell c0)).trans c0, (hU.cell (p := ⟨b, o + i * 2 + 1, none⟩) (block_lt_of_cell c1)).trans c1⟩
              have hbU : Below wr.heap.size wr (wr.drew.alloc (.cells #[.int .i64 p1, .int .i64 p2] 26)) := ((Below.refl wr.heap.size wr).drew).alloc (Nat.le_refl _) _
              have hU := H.out.later hbU
              obtain ⟨v', w2, hrun, q1, q2⟩ := run_pushE14 (O + 1) (.slice a l1.length c) l1 p1 p2 hU.own (by have := lt_of_block hU.out; omega) wr.heap.size (heap_alloc_new wr.drew _) (by omega)
              obtain ⟨hN, hO2, hX2, hM2⟩ := hU.push q1 q2
              obtain ⟨vo, vc, hv', _⟩ := q1.form
              rw [List.length_append] at hv'
              have HV : Hid (∀ V, (V = wr.drew ∨ V = wr.drew.alloc (.cells #[.int .i64 p1, .int .i64 p2] 26) ∨ V = w2) → (V.cell? ⟨O, 1, none⟩ = some (.slice a l1.length c) ∧ V.cell? ⟨w.heap.size, 1, none⟩ = some (.slice (some ⟨b, o, none⟩) es.length cap) ∧ V.cell? ⟨b, o + i * 2, none⟩ = some (.int .i64 p1) ∧ V.cell? ⟨b, o + i * 2 + 1, none⟩ = some (.int .i64 p2))) := fun V hV => by
                rcases hV with rfl | rfl | rfl
                · exact HS.out _ ((Below.refl _ _).drew)
                · exact HS.out _ hbU
                · obtain ⟨b', o', eb, d0, d1⟩ := (HE.out.later hX2.low) i _ HQE.out
                  cases eb
                  exact ⟨(pair_cells hO2).2.1, hX2.cells.2, d0, d1⟩
              have HKF : Hid (w2.frozen? ⟨O, 1, none⟩ = false) := (pair_cells hO2).2.2 1
              have HN : Hid (SbW w n (some ⟨b, o, none⟩) cap es w1.heap.size O L v' (l1 ++ [(p1, p2)]) (w2.setCell ⟨O, 1, none⟩ v')) := hN
              clear hH hq hy hl1 hbU hU q1 q2 hN hO2 hX2 hM2
              go_wp2_with fail
              refine wp_region_any (by kernel_rfl) ?_
              refine AnyOrd.anyP (fun j => match j with | 0 => .pointer (some ⟨O, 1, none⟩) | 1 => .slice a l1.length c | 2 => .pointer (some ⟨w.heap.size, 1, none⟩) | 3 => .slice (some ⟨b, o, none⟩) es.length cap | 4 => .int .i64 (i : Int) | 5 => .pointer (some ⟨b, o + i * 2, none⟩) | 6 => .agg #[.int .i64 p1, .int .i64 p2] | 7 => .slice (some ⟨wr.heap.size, 0, none⟩) 1 1 | 8 => v' | 9 => .pointer (some ⟨O, 1, none⟩) | _ => undef) (Ed.psC wr.drew (wr.drew.alloc (.cells #[.int .i64 p1, .int .i64 p2] 26)) w2 (w2.setCell ⟨O, 1, none⟩ v') 7 8 10) 69 rfl (by kernel_rfl) rfl ?_ ?_
              · intro j o' Ls V ev ho hLi hC haft hdc he1 he2 hec hef
                have hc : j = 0 ∨ j = 1 ∨ j = 2 ∨ j = 3 ∨ j = 4 ∨ j = 5 ∨ j = 6 ∨ j = 7 ∨ j = 8 ∨ j = 9 ∨ j = 10 := by
                  have : j < 11 := (Array.getElem?_eq_some_iff.1 ho).1
                  omega
                have h10 : Ls 10 = false := by
                  cases h : Ls 10 with
                  | false => rfl
                  | true =>
                    exfalso
                    have hq : Ls j = true := by
                      rcases hc with rfl | rfl | rfl | rfl | rfl | rfl | rfl | rfl | rfl | rfl | rfl
                      · exact hdc 10 _ rfl h ⟨0, .phase⟩ (by simp) rfl
                      · exact hdc 10 _ rfl h ⟨1, .phase⟩ (by simp) rfl
                      · exact hdc 10 _ rfl h ⟨2, .phase⟩ (by simp) rfl
                      · exact hdc 10 _ rfl h ⟨3, .phase⟩ (by simp) rfl
                      · exact hdc 10 _ rfl h ⟨4, .phase⟩ (by simp) rfl
                      · exact hdc 10 _ rfl h ⟨5, .phase⟩ (by simp) rfl
                      · exact hdc 10 _ rfl h ⟨6, .phase⟩ (by simp) rfl
                      · exact hdc 10 _ rfl h ⟨7, .phase⟩ (by simp) rfl
                      · exact hdc 10 _ rfl h ⟨8, .phase⟩ (by simp) rfl
                      · exact hdc 10 _ rfl h ⟨9, .data⟩ (by simp) rfl
                      · exact h
                    rw [hLi] at hq
                    cases hq
                have hcV : V = wr.drew ∨ V = (wr.drew.alloc (.cells #[.int .i64 p1, .int .i64 p2] 26)) ∨ V = w2 := by
                  unfold Ed.psC at hC
                  rw [h10] at hC
                  simp only [Bool.false_eq_true, if_false] at hC
                  split at hC
                  · exact .inr (.inr hC)
                  · split at hC
                    · exact .inr (.inl hC)
                    · exact .inl hC
                obtain ⟨k1, k2, k3, k4⟩ := HV.out V hcV
                have kf := HKF.out
                rcases hc with rfl | rfl | rfl | rfl | rfl | rfl | rfl | rfl | rfl | rfl | rfl <;> obtain rfl := Option.some.inj ho
                · have e1 : ev (.tmp 8) = .pointer (some ⟨O, 0, none⟩) := he2 8 (by kernel_rfl)
                  exact AnyOrd.gives_value (v := .pointer (some ⟨O, 1, none⟩)) (w' := V) (by simp [execOp, go_sem, e1]) ⟨rfl, hC.other (by decide) (by decide) (by decide)⟩
                · have e1 : ev (.tmp 58) = .pointer (some ⟨O, 1, none⟩) := he1 0 58 (by omega) rfl (by decide)
                  exact AnyOrd.gives_value (v := .slice a l1.length c) (w' := V) (by simp [execOp, go_sem, e1, k1]) ⟨rfl, hC.other (by decide) (by decide) (by decide)⟩
                · have e1 : ev (.tmp 2) = .pointer (some ⟨w.heap.size, 0, none⟩) := he2 2 (by kernel_rfl)
                  exact AnyOrd.gives_value (v := .pointer (some ⟨w.heap.size, 1, none⟩)) (w' := V) (by simp [execOp, go_sem, e1]) ⟨rfl, hC.other (by decide) (by decide) (by decide)⟩
                · have e1 : ev (.tmp 60) = .pointer (some ⟨w.heap.size, 1, none⟩) := he1 2 60 (by omega) rfl (by decide)
                  exact AnyOrd.gives_value (v := .slice (some ⟨b, o, none⟩) es.length cap) (w' := V) (by simp [execOp, go_sem, e1, k2]) ⟨rfl, hC.other (by decide) (by decide) (by decide)⟩
                · have e1 : ev (.tmp 9) = .int .i64 (i : Int) := he2 9 (by kernel_rfl)
                  exact AnyOrd.gives_value (v := .int .i64 (i : Int)) (w' := V) (by simp [execOp, go_sem, e1]) ⟨rfl, hC.other (by decide) (by decide) (by decide)⟩
                · have e1 : ev (.tmp 61) = .slice (some ⟨b, o, none⟩) es.length cap := he1 3 61 (by omega) rfl (by decide)
                  have e2 : ev (.tmp 62) = .int .i64 (i : Int) := he1 4 62 (by omega) rfl (by decide)
                  exact AnyOrd.gives_value (v := .pointer (some ⟨b, o + i * 2, none⟩)) (w' := V) (by simp [execOp, go_sem, e1, e2, hi0, hili]) ⟨rfl, hC.other (by decide) (by decide) (by decide)⟩
                · have e1 : ev (.tmp 63) = .pointer (some ⟨b, o + i * 2, none⟩) := he1 5 63 (by omega) rfl (by decide)
                  exact AnyOrd.gives_value (v := .agg #[.int .i64 p1, .int .i64 p2]) (w' := V) (by simp [execOp, go_sem, e1, k3, k4]) ⟨rfl, hC.other (by decide) (by decide) (by decide)⟩
                · have e1 : ev (.tmp 64) = .agg #[.int .i64 p1, .int .i64 p2] := he1 6 64 (by omega) rfl (by decide)
                  have h8 : Ls 8 = false := by
                    cases h : Ls 8 with
                    | false => rfl
                    | true =>
                      have : Ls 7 = true := hdc 8 _ rfl h ⟨7, .data⟩ (by simp) rfl
                      rw [this] at hLi
                      cases hLi
                  obtain rfl : V = wr.drew := by
                    unfold Ed.psC at hC
                    rw [h10, h8, hLi] at hC
                    exact hC
                  refine AnyOrd.gives_value (v := .slice (some ⟨wr.heap.size, 0, none⟩) 1 1) (w' := (wr.drew.alloc (.cells #[.int .i64 p1, .int .i64 p2] 26))) (by simp [execOp, go_sem, e1]) ⟨rfl, ?_⟩
                  unfold Ed.psC
                  rw [show AnyOrd.updB Ls 7 10 = false from h10, show AnyOrd.updB Ls 7 8 = false from h8, show AnyOrd.updB Ls 7 7 = true from rfl]
                  rfl
                · have e1 : ev (.tmp 59) = .slice a l1.length c := he1 1 59 (by omega) rfl (by decide)
                  have e2 : ev (.tmp 65) = .slice (some ⟨wr.heap.size, 0, none⟩) 1 1 := he1 7 65 (by omega) rfl (by decide)
                  have h7 : Ls 7 = true := haft ⟨7, .data⟩ (by simp) rfl
                  obtain rfl : V = (wr.drew.alloc (.cells #[.int .i64 p1, .int .i64 p2] 26)) := by
                    unfold Ed.psC at hC
                    rw [h10, hLi, h7] at hC
                    exact hC
                  refine AnyOrd.gives_value (v := v') (w' := w2) (hrun _ ev _ _ rfl rfl e1 e2) ⟨rfl, ?_⟩
                  unfold Ed.psC
                  rw [show AnyOrd.updB Ls 8 10 = false from h10, show AnyOrd.updB Ls 8 8 = true from rfl]
                  rfl
                · have e1 : ev (.tmp 8) = .pointer (some ⟨O, 0, none⟩) := he2 8 (by kernel_rfl)
                  exact AnyOrd.gives_value (v := .pointer (some ⟨O, 1, none⟩)) (w' := V) (by simp [execOp, go_sem, e1]) ⟨rfl, hC.other (by decide) (by decide) (by decide)⟩
                · have e1 : ev (.tmp 67) = .pointer (some ⟨O, 1, none⟩) := he1 9 67 (by omega) rfl (by decide)
                  have e2 : ev (.tmp 66) = v' := he1 8 66 (by omega) rfl (by decide)
                  have h8 : Ls 8 = true := haft ⟨8, .data⟩ (by simp) rfl
                  obtain rfl : V = w2 := by
                    unfold Ed.psC at hC
                    rw [hLi, h8] at hC
                    exact hC
                  refine AnyOrd.gives_skip (w' := V.setCell ⟨O, 1, none⟩ v') (by rw [hv'] at e2 ⊢; simp [execOp, go_sem, e1, e2, k1, kf]) ⟨rfl, ?_⟩
                  unfold Ed.psC
                  rw [if_pos (show AnyOrd.updB Ls 10 10 = true from rfl)]
              · intro Ls V hall hC
                unfold Ed.psC at hC
                rw [if_pos (hall 10 (by decide))] at hC
                subst hC
                simp only [AnyOrd.canon, AnyOrd.dst, Array.size, List.length_cons, List.length_nil]
                simp [Act.put]
                clear hall
                rw [hv'] at HN ⊢
                clear hv' hrun
                go_wp2
                go_roundw
                case rel => exact ⟨i + 1, vo, vc, by omega, by go_num, by rw [HT.out]; simpa using HN.out⟩
                case measure => simp [intOf]; omega
          · have hili : ¬ ((i : Int) < (es.length : Int)) := by omega
            have hie : i = es.length := by omega
            obtain ⟨l1, hl1⟩ : ∃ l1, Ed.sel L (es.take i) = l1 := ⟨_, rfl⟩
            have HLE : Hid (Ed.sel L es = l1) := by rw [← hl1, hie, List.take_length]; exact rfl
            rw [hl1] at hH H y1
            obtain ⟨r0, r1⟩ := hH.bx.rcells
            have f0 := hH.bx.free 0
            have f1 := hH.bx.free 1
            have HBX := Nu.hid hH.bx
            have HOWN : Hid (OwnE wr w.heap.size (.slice a l1.length c) l1) := hH.own.lower (by omega)
            have HFAR := Nu.hid (hH.own.far (b := w.heap.size + 1) (by omega))
            clear hH H hl1 hie
            go_wp2
            obtain ⟨hb, s0, s1⟩ := HBX.out.store (.int .i64 n) (.slice a l1.length c)
            refine bodyPost_ret (v := .tuple #[.agg #[.int .i64 n, .slice a l1.length c], .int .i64 0]) (by simp [results, Try.results21, go_sem, s0, s1]) rfl ?_
            rw [HR.out, HLE.out]
            exact ⟨_, rfl, own_put2 HOWN.out HFAR.out _ _, hb⟩

end Go.Proofs.Ytdkckdbpbdhoaaa
