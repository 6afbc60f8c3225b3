import Derived.Test.YtloabkgojopeaaaMg11
import Derived.Test.YtloabkgojopeaaaMg01
import Derived.Test.YtloabkgojopeaaaMg07
import Derived.Test.YtloabkgojopeaaaMg09
import Derived.Test.YtloabkgojopeaaaMg12
/-
  Around: the document.
-/
namespace Go.Proofs.Ytloabkgojopeaaa
open Go.RowKit Go.Sort

/-- 'append(v, z)' at a single operation, v a list of one's own. -/
theorem wp_push1 {o : Oper} {a : Act} {K : Act → World → Prop} {Q : Exit → Act → World → Prop} (s x : Operand)
    (ho : o.op = .call { callee := .builtin .append, args := #[s, x], argTypes := #[22, 22] }) (W : World) (B : Nat) (v : Value) (l : List Int) (z : Int) (hown : OwnZ W B v l)
    (hB : B ≤ W.heap.size) (hl : l.length ≤ 17592186044000) (hs : a.eval s = v) (hx : a.eval x = .slice (some ⟨W.heap.size, 0, none⟩) 1 1)
    (h : ∀ v' w', OwnZ w' B v' (l ++ [z]) → Below B W w' → K (a.put o.dst v') w') :
    o.wp Try.prog a (W.alloc (.cells #[.int .i64 z] 3)) K Q := by
  obtain ⟨i0, hi, hz0, hz1, hz2⟩ := info_parts Try.infoNum
  have hb0 : Below B W (W.alloc (.cells #[.int .i64 z] 3)) := (Below.refl _ _).alloc hB _
  refine wp_append_own _ s x 22 ho B 3 i0 (.int .i64 0) 1 8 Try.underlying22 hi hz0 hz1 hz2 rfl (by decide) v l.length (l.map (Value.int .i64)) hs (World.ownsRow.alloc hown _) ⟨W.heap.size, 0, none⟩ 1 1 [.int .i64 z] hx rfl (cell_one_new _ _ _) (by simp [Value.oneCell']) (by unfold maxLen; omega) (by omega) (by simp; omega) ?_
  intro v' w' hown' hg _
  refine h v' w' ?_ (hb0.grown hg (by simp; omega) (fun b hb => (World.ownsRow.lt hown b hb).1))
  unfold OwnZ
  rw [List.length_append, List.map_append]
  exact hown'

set_option maxRecDepth 100000 in
set_option maxHeartbeats 8000000 in
theorem r11around_any (n : Int) (ao : Option Addr) (ca : Nat) (es : List (Int × Int)) (xo : Option Addr) (xc : Nat) (ls : List (List Int)) (w : World) (he : EdgesAt w ao es) (hl : es.length ≤ 4611686018427387904) (hx : RwsAt w xo ls) :
    Calls Try.prog 20 #[graphVal n ao es.length ca, .slice xo ls.length xc] w (AroundP n es ls w) := by
  have hb0 : Below w.heap.size w (w.alloc (.cells #[.int .i64 n, .slice ao es.length ca] 30)) := (Below.refl _ _).alloc (Nat.le_refl _) _
  have HCK := Nu.hid (r11check_any n ao ca es xo xc ls _ (he.later hb0) hl (hx.later hb0))
  have HX := Nu.hid hx
  have HE := Nu.hid he
  have HB0 := Nu.hid hb0
  unfold graphVal at HCK ⊢
  clear he hx hb0
  by_cases hc : (Ro.check n es ls).2 = 0
  · have hrot := Ro.check_iff.1 hc
    have hval := Si.valid_iff.1 hrot.val
    have hlo := hval.lo
    have hhi := hval.hi
    have hfew := hval.few
    have hlen := hrot.len
    have HROT := Nu.hid hrot
    have HC := Nu.hid hc
    rw [hc] at HCK
    obtain ⟨cv, hcv⟩ : ∃ cv, cv = (Ro.check n es ls).1 := ⟨_, rfl⟩
    rw [← hcv] at HCK
    obtain ⟨N, hN⟩ : ∃ N, N = ls.length := ⟨_, rfl⟩
    rw [← hN] at HCK hlen ⊢
    obtain rfl : n = (N : Int) := hlen.symm
    have HN := Nu.hid hN
    have HVAL := Nu.hid hval
    clear hc hrot hval hcv hN hlen
    go_enter Try.func20, Try.ntmps20
    go_wp2_with (go_at_call 17; refine HCK.out.mono ?_; rintro e w1 ⟨rfl, hb⟩; refine Hid.out ?_)
    refine Nu.hid ?_
    have hG0 : w1.heap[w.heap.size]? = some (.cells #[.int .i64 (N : Int), .slice ao es.length ca] 30 (0, 0)) := (hb.block _ (by simp)).trans (heap_alloc_new w _)
    have hsz1 : w.heap.size < w1.heap.size := lt_of_block hG0
    have HB1 := Nu.hid (HB0.out.trans (hb.mono HB0.out.size))
    obtain ⟨g0, g1, -⟩ := pair_cells hG0
    have G0 := Nu.hid g0
    have G1 := Nu.hid g1
    clear hb hG0 g0 g1
    go_wp2
    go_loopw [8, 9] (fun c d wr => ∃ (k : Nat) (vs : List Value), k ≤ N ∧ d = .int .i64 (k : Int) ∧ RowsZ wr w1.heap.size c vs ((ls.take k).map (Ro.toL es)) ∧ Below w1.heap.size w1 wr) (fun _ d _ => N - (intOf d).toNat)
    case atStart => exact ⟨0, [], Nat.zero_le _, rfl, RowsZ.nil _ _, Below.refl _ _⟩
    case round =>
      obtain ⟨k, vs, hk, rfl, hr, hb⟩ := hrel
      obtain ⟨W0, rfl⟩ : ∃ W0, W0 = wr := ⟨_, rfl⟩
      have HR := Nu.hid hr
      have HB := Nu.hid hb
      have hws := hb.size
      obtain ⟨uo, uc, rfl⟩ := row_shape hr
      generalize hql : ((ls.take k).map (Ro.toL es)).length = ql at *
      have HQL := Nu.hid hql
      clear hr hb hql
      by_cases hlt : k < N
      · have hlti : (k : Int) < (N : Int) := by omega
        have hk0 : (0 : Int) ≤ (k : Int) := by omega
        obtain ⟨l, hlk⟩ : ∃ l, ls[k]? = some l := ⟨_, List.getElem?_eq_getElem (by have := HN.out; omega)⟩
        obtain ⟨b, o, A, C, rfl, hcell, hL, hln, -⟩ := ((HX.out.later HB1.out).later HB.out) k l hlk
        have HLW := Nu.hid hL
        obtain ⟨p1, hp1⟩ : ∃ p1, l.length = p1 := ⟨_, rfl⟩
        rw [hp1] at hcell hln HLW
        have HLK := Nu.hid hlk
        have HP1 := Nu.hid hp1
        have HCELL := Nu.hid hcell
        clear hL hlk hp1
        go_wp2
        clear hcell
        go_loopw [10, 11] (fun c5 c6 w5 => ∃ i : Nat, i ≤ p1 ∧ c6 = .int .i64 (i : Int) ∧ OwnZ w5 W0.heap.size c5 (Ro.toL es (l.take i)) ∧ Below W0.heap.size W0 w5) (fun _ c6 _ => p1 - (intOf c6).toNat)
        case atStart => exact ⟨0, Nat.zero_le _, rfl, OwnZ.nil _ _, Below.refl _ _⟩
        case round =>
          obtain ⟨i, hi, rfl, ho5, hb5⟩ := hrel
          have HB5 := Nu.hid hb5
          have HO5 := Nu.hid ho5
          have hs5 := hb5.size
          obtain ⟨ro, rc, erow, -, -⟩ := ho5.form
          subst erow
          generalize hrl : (Ro.toL es (l.take i)).length = rl at *
          have HRL := Nu.hid hrl
          have hcr := (hb5.cell (p := ⟨b, o + k, none⟩) (block_lt_of_cell HCELL.out)).trans HCELL.out
          clear hb5 ho5 hrl
          by_cases hil : i < p1
          · have hili : (i : Int) < (p1 : Int) := by omega
            have hi0 : (0 : Int) ≤ (i : Int) := by omega
            obtain ⟨x, hxi⟩ : ∃ x, l[i]? = some x := ⟨_, List.getElem?_eq_getElem (by have := HP1.out; omega)⟩
            obtain ⟨j, rfl, hj, -⟩ := HROT.out.half HLK.out hxi
            obtain ⟨lb, lo', rfl, lc⟩ := HLW.out.elem hxi
            have HS : Hid (∀ V, Below W0.heap.size W0 V → V.cell? ⟨w.heap.size, 0, none⟩ = some (.int .i64 (N : Int)) ∧ V.cell? ⟨w.heap.size, 1, none⟩ = some (.slice ao es.length ca) ∧ V.cell? ⟨b, o + k, none⟩ = some (.slice (some ⟨lb, lo', none⟩) p1 C) ∧ V.cell? ⟨lb, lo' + i, none⟩ = some (.int .i64 (j : Int)) ∧ Below W0.heap.size W0 V) := fun V hV =>
              ⟨(hV.cell (p := ⟨w.heap.size, 0, none⟩) (by show w.heap.size < _; omega)).trans ((HB.out.cell (p := ⟨w.heap.size, 0, none⟩) hsz1).trans G0.out), (hV.cell (p := ⟨w.heap.size, 1, none⟩) (by show w.heap.size < _; omega)).trans ((HB.out.cell (p := ⟨w.heap.size, 1, none⟩) hsz1).trans G1.out),
                (hV.cell (p := ⟨b, o + k, none⟩) (block_lt_of_cell HCELL.out)).trans HCELL.out, (hV.cell (p := ⟨lb, lo' + i, none⟩) (block_lt_of_cell lc)).trans lc, hV⟩
            have HT := Nu.hid (fun V (hV : Below W0.heap.size W0 V) => r11to_any N ao ca es j V (((HE.out.later HB1.out).later HB.out).later hV) HVAL.out hj)
            have HD : Hid (Below W0.heap.size W0 wr.drew) := HB5.out.drew
            have HXI := Nu.hid hxi
            have hrl2 : rl ≤ 17592186044000 := by have := HRL.out; rw [Ro.toL_len, List.length_take] at this; omega
            clear hxi lc
            go_wp2_with fail
            go_region_held3 (fun V => V.cell? ⟨w.heap.size, 0, none⟩ = some (.int .i64 (N : Int)) ∧ V.cell? ⟨w.heap.size, 1, none⟩ = some (.slice ao es.length ca) ∧ V.cell? ⟨b, o + k, none⟩ = some (.slice (some ⟨lb, lo', none⟩) p1 C) ∧ V.cell? ⟨lb, lo' + i, none⟩ = some (.int .i64 (j : Int)) ∧ Below W0.heap.size W0 V)
              (first | exact HS.out _ (by first | assumption | exact HD.out) | exact HS.out _ (Below.alloc (by first | assumption | exact HD.out) (Below.size (by first | assumption | exact HD.out)) _))
              ((first
                | (go_at_call 41; refine (HT.out _ (by first | assumption | exact HD.out)).mono ?_; rintro e V1 ⟨rfl, hb1⟩; have hbV : Below W0.heap.size W0 V1 := Below.trans HD.out (hb1.mono hs5); have hoV := HO5.out.later (((Below.refl wr.heap.size wr).drew).trans hb1))
                | (rw [if_pos (by rfl)]; refine wp_push1 _ _ (by rfl) V1 W0.heap.size (.slice ro rl rc) (Ro.toL es (l.take i)) (Cs.to es j : Int) hoV (hbV.size) (by rw [HRL.out]; exact hrl2) (by rfl) (by rfl) ?_; intro v' w' ho' hb'; have hbW : Below W0.heap.size W0 w' := hbV.trans hb')))
            have HO' := Nu.hid (show OwnZ w' W0.heap.size v' (Ro.toL es (l.take (i + 1))) by rw [Ro.toL_snoc HXI.out]; exact ho')
            have HBW := Nu.hid hbW
            clear ho' hb' hbW hbV hoV hb1
            go_wp2
            go_roundw
            case rel => exact ⟨i + 1, by omega, by go_num, HO'.out, HBW.out⟩
            case measure => simp [intOf]; omega
          · have hili : ¬ (i : Int) < (p1 : Int) := by omega
            obtain rfl : i = p1 := by omega
            have HOV : Hid (OwnZ wr W0.heap.size (.slice ro rl rc) (Ro.toL es l)) := by
              have := HO5.out
              rw [List.take_of_length_le (by rw [HP1.out]; exact Nat.le_refl _)] at this
              exact this
            go_wp2_with (at_builtin; refine wpList_pushRow rfl _ _ 23 Try.underlying23 rfl W0 wr w1.heap.size (.slice uo ql uc) vs ((ls.take k).map (Ro.toL es)) (.slice ro rl rc) (Ro.toL es l) HR.out HB5.out HOV.out hws (by rw [HQL.out]; have := HQL.out; rw [List.length_map, List.length_take] at this; omega) rfl rfl ?_; refine Hid.out ?_)
            refine Nu.hid ?_
            intro v2 w2 hr2 hb2
            have HR2 := Nu.hid (show RowsZ w2 w1.heap.size v2 (vs ++ [.slice ro rl rc]) ((ls.take (k + 1)).map (Ro.toL es)) by
              rw [Ro.map_snoc (f := Ro.toL es) HLK.out]
              first | exact hr2 | (rw [List.map_take]; exact hr2))
            have HB2 := Nu.hid (HB.out.trans hb2)
            clear hr2 hb2
            go_wp2
            go_roundw
            case rel => exact ⟨k + 1, _, by omega, by go_num, HR2.out, HB2.out⟩
            case measure => simp [intOf]; omega
      · have hlti : ¬ (k : Int) < (N : Int) := by omega
        obtain rfl : k = N := by omega
        go_wp2
        go_ret2
        have h1 := HR.out
        rw [HN.out, List.take_length] at h1
        exact ⟨HB1.out.trans (HB.out.mono (by omega)), .inr ⟨HC.out, _, vs, rfl, h1.lower (by omega)⟩⟩
  · obtain ⟨cv, hcv⟩ : ∃ cv, cv = (Ro.check n es ls).1 := ⟨_, rfl⟩
    obtain ⟨cc, hcc⟩ : ∃ cc, cc = (Ro.check n es ls).2 := ⟨_, rfl⟩
    rw [← hcv, ← hcc] at HCK
    rw [← hcc] at hc
    have HCC := Nu.hid hcc
    have j1 : (cc != 0) = true := by simp [hc]
    have HNC := Nu.hid hc
    clear hcv hcc hc
    go_enter Try.func20, Try.ntmps20
    go_wp2_with (go_at_call 17; refine HCK.out.mono ?_; rintro e w1 ⟨rfl, hb⟩; refine Hid.out ?_)
    refine Nu.hid ?_
    have HB1 := Nu.hid (HB0.out.trans (hb.mono HB0.out.size))
    clear hb
    go_wp2
    go_ret2
    refine ⟨HB1.out, .inl ⟨by rw [← HCC.out]; exact HNC.out, by rw [← HCC.out]; rfl⟩⟩

end Go.Proofs.Ytloabkgojopeaaa
