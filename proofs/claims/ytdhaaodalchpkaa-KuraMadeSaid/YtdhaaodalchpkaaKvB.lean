/-
  Layer 15, the program: the walker's along.
-/
import Derived.Test.YtdhaaodalchpkaaKvA
import Derived.Test.YtdhaaodalchpkaaKuI
import Derived.Test.YtdhaaodalchpkaaBoolB
import Derived.Test.YtdhaaodalchpkaaMgB
namespace Go.Proofs.Ytdhaaodalchpkaa
open Go.RowKit Go.Sort

namespace Ku
section
variable {es : List (Int × Int)} {n : Int}
/-- The vertices so far. -/
def vt (es : List (Int × Int)) (b : Nat) (l : List Nat) : List Int := (Cs.fr es b : Int) :: l.map fun x => (Cs.to es x : Int)
theorem vt_snoc (b : Nat) (l : List Nat) (x : Nat) : vt es b (l ++ [x]) = vt es b l ++ [(Cs.to es x : Int)] := by simp [vt]
theorem vt_all {hv : Si.Val n es} {b : Nat} {T : List Nat} (h : T[0]? = some b) : vt es b T = ZL (vs (gs es hv) T) := by
  cases T with
  | nil => simp at h
  | cons y T =>
    simp at h
    subst h
    show _ = ((Cs.fr es y : Nat) : Int) :: ((y :: T).map (gs es hv).to).map (fun x : Nat => (x : Int))
    rw [List.map_map]
    unfold vt
    congr 1
    refine List.map_congr_left fun x _ => ?_
    show (Cs.to es x : Int) = (((gs es hv).to x : Nat) : Int)
    rw [gs_to]
end
/-- What along answers. -/
def AloP (es : List (Int × Int)) {n : Int} (hv : Si.Val n es) (b g : Nat) (gf : Nat → Bool) (w : World) (e : Ending) (w' : World) : Prop :=
  ∃ (v : Value) (gf' : Nat → Bool), e = .returned v ∧ OwnZ w' w.heap.size v (ZL (vs (gs es hv) (all (gs es hv).toSys b))) ∧ BoolsIn w' g es.length gf' ∧ (∀ i, gf' i = true ↔ (gf i = true ∨ By (all (gs es hv).toSys b) i)) ∧ Wrote (fun k => k = g) w w'
end Ku

set_option maxRecDepth 100000 in
set_option maxHeartbeats 8000000 in
theorem valong_any (p n : Nat) (es : List (Int × Int)) (g b0 : Nat) (gf : Nat → Bool) (w0 w : World) (hA : IsAdj w0 (.pointer (some ⟨p, 0, none⟩)) n es) (hv : Si.Val (n : Int) es) (hw : Below w0.heap.size w0 w) (hg0 : w0.heap.size ≤ g) (hg : BoolsIn w g es.length gf) (hb0 : b0 < 2 * es.length) (hfree : ∀ x ∈ Ku.all (Ku.gs es hv).toSys b0, gf (x / 2) = false) :
    Calls Try.prog 44 #[.agg #[.pointer (some ⟨p, 0, none⟩), .slice (some ⟨g, 0, none⟩) es.length es.length], .int .i64 (b0 : Int)] w (Ku.AloP es hv b0 g gf w) := by
  obtain ⟨W, hW⟩ : ∃ W, W = w.alloc (.cells #[.pointer (some ⟨p, 0, none⟩), .slice (some ⟨g, 0, none⟩) es.length es.length] 88) := ⟨_, rfl⟩
  have hB0 : Below w.heap.size w W := by rw [hW]; exact (Below.refl _ _).alloc (Nat.le_refl _) _
  have g1 : W.heap[w.heap.size]? = some (.cells #[.pointer (some ⟨p, 0, none⟩), .slice (some ⟨g, 0, none⟩) es.length es.length] 88 (0, 0)) := by rw [hW]; exact heap_alloc_new w _
  obtain ⟨c0, c1, -⟩ := pair_cells g1
  have hfew := hv.few
  have hgw := hg.lt
  have hws : w.heap.size < W.heap.size := lt_of_block g1
  obtain ⟨T, hT⟩ : ∃ T, Ku.all (Ku.gs es hv).toSys b0 = T := ⟨_, rfl⟩
  have hbM : b0 < (Ku.gs es hv).toSys.M := hb0
  obtain ⟨htr, hnd, hTlt, -, -⟩ := Ku.all_spec hbM
  have HZ0 := Nu.hid (Ku.all_zero hbM)
  have HNONE : Hid (∀ j x, T[j]? = some x → Ku.nxt es x = none → j + 1 = T.length) := fun j x hx e => by rw [← hT] at hx ⊢; exact Ku.all_none hbM hx e
  have HBACK : Hid (∀ j x, T[j]? = some x → Ku.nxt es x = some b0 → j + 1 = T.length) := fun j x hx e => by rw [← hT] at hx ⊢; exact Ku.all_back hbM hx e
  have HGO : Hid (∀ j x k, T[j]? = some x → Ku.nxt es x = some k → k ≠ b0 → T[j + 1]? = some k) := fun j x k hx e hk => by rw [← hT] at hx ⊢; exact Ku.all_go hbM hx e hk
  have HLT : Hid (∀ j x, T[j]? = some x → x < 2 * es.length) := fun j x hx => hTlt x (by rw [hT]; exact List.mem_of_getElem? hx)
  have HFREE : Hid (∀ j x, T[j]? = some x → gf (x / 2) = false) := fun j x hx => hfree x (by rw [hT]; exact List.mem_of_getElem? hx)
  rw [hT] at htr hnd HZ0
  have HONCE : Hid (∀ (j x : Nat), T[j]? = some x → ¬ Ku.By (T.take j) (x / 2)) := fun j x hx ⟨y, hy, e⟩ => by
    obtain ⟨i, hi, ei⟩ := List.mem_iff_getElem.1 hy
    rw [List.length_take] at hi
    have hyi : T[i]? = some y := by rw [← ei, List.getElem_take]; exact List.getElem?_eq_getElem (by omega)
    exact Ku.trail_once htr hnd (fun a b e => Ku.half_two a b e) (show i < j by omega) hyi hx e
  have HEND : Hid (Ku.vt es b0 T = Ku.ZL (Ku.vs (Ku.gs es hv) T)) := Ku.vt_all HZ0.out
  have HTL : Hid (T.length ≤ 8388608) := by
    have := Ku.few_below (M := 2 * es.length) hnd (fun x hx => by
      obtain ⟨i, hi, ei⟩ := List.mem_iff_getElem.1 hx
      exact HLT.out i x (by rw [← ei]; exact List.getElem?_eq_getElem hi))
    exact Nat.le_trans this (by omega)
  have HADJ : Hid (∀ U : World, Below w0.heap.size w0 U → IsAdj U (.pointer (some ⟨p, 0, none⟩)) n es) := fun U hU => hA.later hU
  have HLATE : Hid (∀ U : World, Wrote (fun k => k = g) W U → Below w0.heap.size w0 U) := fun U hU => (hw.trans (hB0.mono hw.size)).trans (hU.below (Nat.le_trans hw.size (by omega)) (fun k hk => by subst hk; exact hg0))
  have HBOX : Hid (∀ U : World, Wrote (fun k => k = g) W U → U.heap[w.heap.size]? = some (.cells #[.pointer (some ⟨p, 0, none⟩), .slice (some ⟨g, 0, none⟩) es.length es.length] 88 (0, 0))) := fun U hU => (hU.block _ hws (by omega)).trans g1
  have HFR : Hid (Calls Try.prog 58 #[.pointer (some ⟨p, 0, none⟩), .int .i64 (b0 : Int)] W fun e w' => e = .returned (.int .i64 (Cs.fr es b0 : Int)) ∧ w' = W) := by
    have := from_any _ n es (b0 : Int) W (hA.later (hw.trans (hB0.mono hw.size)))
    rw [Cs.frI_in hb0] at this
    exact this
  have HTO : Hid (∀ (x : Nat) (U : World), x < 2 * es.length → Below w0.heap.size w0 U → Calls Try.prog 60 #[.pointer (some ⟨p, 0, none⟩), .int .i64 (x : Int)] U fun e w' => e = .returned (.int .i64 (Cs.to es x : Int)) ∧ w' = U) := fun x U hx hU => by
    have := to_any _ n es (x : Int) U (hA.later hU)
    rw [Cs.toI_in hx] at this
    exact this
  have HON : Hid (∀ (h : Nat) (U : World), h < 2 * es.length → Below w0.heap.size w0 U → Calls Try.prog 59 #[.agg #[.pointer (some ⟨p, 0, none⟩), .slice (some ⟨g, 0, none⟩) es.length es.length], .int .i64 (h : Int)] U (Ku.OnP es h U)) := fun h U hh hU => von_any p n es _ _ _ h U (hA.later hU) hv hh
  have HG0 := Nu.hid (hg.later hB0)
  have HB0 := Nu.hid hB0
  have HW := Nu.hid hW
  have HT := Nu.hid hT
  have HI0 : Hid (IntsBlk (W.alloc (.cells #[.int .i64 (Cs.fr es b0 : Int)] 3)) W.heap.size [(Cs.fr es b0 : Int)]) := heap_alloc_new W _
  clear hA hB0 g1 hT hbM hTlt hw hg hfree htr hnd
  rw [hW] at c0 c1
  clear hW
  go_enter Try.func44, Try.ntmps44
  go_wp2_with (go_at_call 58; rw [← HW.out]; refine HFR.out.mono ?_; rintro e w1 ⟨rfl, hw1⟩; obtain rfl := hw1.symm; refine Hid.out ?_)
  refine Nu.hid ?_
  clear c0 c1
  go_wp2
  go_loopg [1, 5, 6] (T.length + 1) (fun d s1 s5 s6 wr => ∃ (j h : Nat) (b : Bool) (gf' : Nat → Bool), j ≤ T.length ∧ T.length - j ≤ d ∧ s1 = .int .i64 (h : Int) ∧ s6 = .bool b ∧ OwnZ wr W.heap.size s5 (Ku.vt es b0 (T.take j)) ∧ BoolsIn wr g es.length gf' ∧ (∀ i, gf' i = true ↔ (gf i = true ∨ Ku.By (T.take j) i)) ∧ Wrote (fun k => k = g) W wr ∧ ((T[j]? = some h ∧ b = true) ∨ (j = T.length ∧ ((b = false ∧ h = 0) ∨ (b = true ∧ h = b0)))))
  case atStart =>
    refine ⟨0, b0, true, gf, Nat.zero_le _, by omega, rfl, rfl, IntsBlk.own HI0.out (Nat.le_refl _) rfl (by omega), HG0.out.later ((Below.refl _ _).alloc (Nat.le_refl _) _), fun i => ?_, (Wrote.refl _ _).alloc _, .inl ⟨HZ0.out, rfl⟩⟩
    constructor
    · exact fun h => .inl h
    · rintro (h | ⟨y, hy, _⟩)
      · exact h
      · simp at hy
  case round =>
    obtain ⟨j, h, b, gf', hj, hd, rfl, rfl, hown, hgb, hiff, hwr, hc⟩ := hrel
    obtain ⟨U, rfl⟩ : ∃ U, U = wr := ⟨wr, rfl⟩
    have HOWN := Nu.hid hown
    have HGB := Nu.hid hgb
    have HIFF := Nu.hid hiff
    have HWR := Nu.hid hwr
    have hlv : (Ku.vt es b0 (T.take j)).length = j + 1 := by
      unfold Ku.vt
      rw [List.length_cons, List.length_map, List.length_take]
      omega
    obtain ⟨oa, oc, hve, -, -⟩ := hown.form
    rw [hlv] at hve
    subst hve
    have hbox := HBOX.out U hwr
    obtain ⟨c0, c1, -⟩ := pair_cells hbox
    have HFIN : Hid (j = T.length → ∀ v, OwnZ U W.heap.size v (Ku.vt es b0 (T.take j)) → Ku.AloP es hv b0 g gf w (.returned v) U) := fun hjl v ho => by
      refine ⟨v, gf', rfl, ?_, HGB.out, ?_, ((Wrote.refl _ w).later HB0.out).trans HWR.out⟩
      · have := ho.lower (Nat.le_of_lt hws)
        rw [hjl, List.take_length, HEND.out] at this
        rw [HT.out]
        exact this
      · have := HIFF.out
        rw [hjl, List.take_length] at this
        rw [HT.out]
        exact this
    rcases hc with ⟨hx, rfl⟩ | ⟨hjl, ⟨rfl, rfl⟩ | ⟨rfl, rfl⟩⟩
    · have hxl := HLT.out j h hx
      have hjT := (List.getElem?_eq_some_iff.1 hx).1
      obtain ⟨jh, hjh⟩ : ∃ jh, h / 2 = jh := ⟨_, rfl⟩
      have hjhl : jh < es.length := by omega
      have hno : gf' jh = false := by
        cases hb : gf' jh with
        | false => rfl
        | true =>
          rcases (hiff jh).1 hb with h1 | h1
          · have := HFREE.out j h hx
            rw [hjh, h1] at this
            cases this
          · exact absurd (by rw [hjh]; exact h1) (HONCE.out j h hx)
      have cg := hgb.cell hjhl
      rw [hno] at cg
      have cf := hgb.free jh
      have i1 : (h : Int).tdiv 2 = (jh : Int) := by rw [Int.tdiv_eq_ediv_of_nonneg (by omega)]; omega
      have i2 : (h : Int) / 2 = (jh : Int) := by omega
      have i3 : IntKind.i64.wrap (jh : Int) = (jh : Int) := by rw [IntKind.wrap_i64]; omega
      have i4 : (0 : Int) ≤ (jh : Int) := by omega
      have i5 : (jh : Int) < (es.length : Int) := by omega
      obtain ⟨U1, hU1⟩ : ∃ U1, U1 = U.setCell ⟨g, jh, none⟩ (.bool true) := ⟨_, rfl⟩
      have hwr1 : Wrote (fun k => k = g) W U1 := by rw [hU1]; exact hwr.setCell rfl _
      have HG1 : Hid (BoolsIn U1 g es.length (Co.updB gf' jh true)) := by rw [hU1]; exact hgb.set jh true
      have HO1 : Hid (OwnZ U1 W.heap.size (.slice oa (j + 1) oc) (Ku.vt es b0 (T.take j))) := hown.same fun q hq _ => by
        rw [hU1]
        refine heap_setCell_other U ⟨g, jh, none⟩ q _ ?_
        have := (World.ownsRow.lt hown q hq).1
        show q ≠ g
        have hgW := Nat.lt_trans hgw hws
        omega
      have HLT1 := Nu.hid (HLATE.out U1 hwr1)
      have HTO1 := Nu.hid (HTO.out h U1 hxl HLT1.out)
      obtain ⟨e0, e1, -⟩ := pair_cells (HBOX.out U1 hwr1)
      have HX := Nu.hid hx
      have HU1 := Nu.hid hU1
      have HWR1 := Nu.hid hwr1
      have hsz2 : W.heap.size ≤ U1.heap.size := hwr1.size
      have hlenl : (Ku.vt es b0 (T.take j)).length ≤ 17592186044000 := by
        have := HTL.out
        rw [hlv]
        omega
      have HNX : Hid (Ku.vt es b0 (T.take (j + 1)) = Ku.vt es b0 (T.take j) ++ [(Cs.to es h : Int)]) := by
        rw [Ku.take_next hx, Ku.vt_snoc]
        exact Nu.hid rfl
      have HIFF1 : Hid (∀ i, Co.updB gf' jh true i = true ↔ (gf i = true ∨ Ku.By (T.take (j + 1)) i)) := fun i => by
        rw [Ku.take_next hx]
        unfold Co.updB
        constructor
        · intro hi
          split at hi
          · rename_i hij
            exact .inr ⟨h, by simp, by omega⟩
          · rcases (HIFF.out i).1 hi with h1 | ⟨y, hy, hye⟩
            · exact .inl h1
            · exact .inr ⟨y, List.mem_append_left _ hy, hye⟩
        · intro hi
          split
          · rfl
          · rename_i hij
            refine (HIFF.out i).2 ?_
            rcases hi with h1 | ⟨y, hy, hye⟩
            · exact .inl h1
            · rcases List.mem_append.1 hy with hy | hy
              · exact .inr ⟨y, hy, hye⟩
              · simp at hy
                subst hy
                omega
      rw [hU1] at e0 e1
      clear hx hlv hown hgb hiff hwr hbox hjh hno hU1 hwr1
      go_wp2_with (go_at_call 60; rw [← HU1.out]; refine HTO1.out.mono ?_; rintro e w1 ⟨rfl, hw1⟩; obtain rfl := hw1.symm; refine Hid.out ?_)
      refine Nu.hid ?_
      clear c0 c1 e0 e1 cg cf
      go_wp2_with (at_builtin; refine wpList_push rfl _ _ rfl _ W.heap.size _ _ (Cs.to es h : Int) HO1.out (by omega) hlenl rfl rfl ?_; refine Hid.out ?_)
      refine Nu.hid ?_
      intro v' w3 hrow3 _ _ hb3
      have hrow4 : OwnZ w3 W.heap.size v' (Ku.vt es b0 (T.take (j + 1))) := by rw [HNX.out]; exact hrow3
      have hw3 : Wrote (fun k => k = g) W w3 := ⟨hb3.os.trans HWR1.out.os, hb3.tape.trans HWR1.out.tape, hb3.output.trans HWR1.out.output, Nat.le_trans HWR1.out.size hb3.size, fun k hk hne => (hb3.block k hk).trans (HWR1.out.block k hk hne)⟩
      have HG3 : Hid (BoolsIn w3 g es.length (Co.updB gf' jh true)) := HG1.out.same (hb3.block g (by omega))
      have HL3 := HLATE.out w3 hw3
      have HOK := Nu.hid (HON.out h w3 hxl HL3)
      obtain ⟨e0, e1, -⟩ := pair_cells (HBOX.out w3 hw3)
      have HR4 := Nu.hid hrow4
      have HW3 := Nu.hid hw3
      have hs3 := hw3.size
      clear hrow3 hrow4 hw3 hb3 HL3
      go_wp2_with (go_at_call 59; refine HOK.out.mono ?_; refine Hid.out ?_)
      refine Nu.hid ?_
      rintro e w4 ⟨k2, b2, rfl, hc2, hb4⟩
      have HC2 := Nu.hid hc2
      have HB4 := Nu.hid hb4
      clear e0 e1 hc2 hb4
      go_wp2
      go_roundg (T.length - (j + 1))
      case measure => omega
      case rel =>
        refine ⟨j + 1, k2, b2, Co.updB gf' jh true, by omega, Nat.le_refl _, rfl, rfl, HR4.out.later HB4.out, HG3.out.later HB4.out, HIFF1.out, HW3.out.later HB4.out, ?_⟩
        rcases HC2.out with ⟨rfl, hk⟩ | ⟨rfl, hk, rfl⟩
        · by_cases hkb : k2 = b0
          · exact .inr ⟨HBACK.out j h HX.out (by rw [hk, hkb]), .inr ⟨rfl, hkb⟩⟩
          · exact .inl ⟨HGO.out j h k2 HX.out hk hkb, rfl⟩
        · exact .inr ⟨HNONE.out j h HX.out hk, .inl ⟨rfl, rfl⟩⟩
    · have HF := Nu.hid (HFIN.out hjl)
      clear hlv hown hgb hiff hwr hbox hjl
      go_wp2
      go_ret
      exact HF.out _ HOWN.out
    · have HF := Nu.hid (HFIN.out hjl)
      obtain ⟨jh, hjh⟩ : ∃ jh, h / 2 = jh := ⟨_, rfl⟩
      have hyes : gf' jh = true := (hiff jh).2 (.inr ⟨h, by rw [hjl, List.take_length]; exact List.mem_of_getElem? HZ0.out, hjh⟩)
      have cg := hgb.cell (i := jh) (by omega)
      rw [hyes] at cg
      have i1 : (h : Int).tdiv 2 = (jh : Int) := by rw [Int.tdiv_eq_ediv_of_nonneg (by omega)]; omega
      have i2 : (h : Int) / 2 = (jh : Int) := by omega
      have i3 : IntKind.i64.wrap (jh : Int) = (jh : Int) := by rw [IntKind.wrap_i64]; omega
      have i4 : (0 : Int) ≤ (jh : Int) := by omega
      have i5 : (jh : Int) < (es.length : Int) := by omega
      clear hlv hown hgb hiff hwr hbox hjl
      go_wp2
      go_ret
      exact HF.out _ HOWN.out
end Go.Proofs.Ytdhaaodalchpkaa
