/-
  Proved: for every graph and every rotation the law FacesOwn answers true, and both read afterwards as before. No condition.
-/
import Derived.Test.YtfkmldopfhdbkaaFaOv
import Derived.Test.YtfkmldopfhdbkaaMg10
import Derived.Test.YtfkmldopfhdbkaaExt
namespace Go.Proofs.Ytfkmldopfhdbkaa
open Go.ChangeShapes Go.WideShapes Go.ChangeAt Go.RowKit
namespace lawFOw

/-- Two lists of lists: neither's outer block is the other's, nor one of its lists'. -/
def TwoR (m : Value) (ms : List Value) (v : Value) (ws : List Value) : Prop :=
  (∀ b, m.ownBlock = some b → v.ownBlock ≠ some b) ∧ (∀ (u : Nat) (x : Value) (b : Nat), ms[u]? = some x → x.ownBlock = some b → v.ownBlock ≠ some b) ∧ (∀ (u : Nat) (x : Value) (b : Nat), ws[u]? = some x → x.ownBlock = some b → m.ownBlock ≠ some b)
theorem lit_ints {w : World} {k : Nat} {l : List Int} (h : w.heap[k]? = some (.cells (l.map (Value.int .i64)).toArray 3 (0, 0))) : IntsBlk w k l := h

set_option maxRecDepth 100000 in
set_option maxHeartbeats 32000000 in
theorem walk (n : Int) (ao : Option Addr) (ca : Nat) (es : List (Int × Int)) (xo : Option Addr) (xc : Nat) (ls : List (List Int)) (w : World) (_ : -9223372036854775808 ≤ n ∧ n ≤ 9223372036854775807) (hq : PairsIn w ao es.length ca es) (hl : es.length * 16 ≤ 140737488351232) (hx : RowsIn w xo ls.length xc ls) :
    Calls Try.prog 8 #[.agg #[.int .i64 n, .slice ao es.length ca], .slice xo ls.length xc] w fun e w' => e = .returned (.bool true) ∧ Below w.heap.size w w' := by
  obtain ⟨W, hW⟩ : ∃ W, W = w.alloc (.cells #[.int .i64 n, .slice ao es.length ca] 24) := ⟨_, rfl⟩
  have hG0 : GS w n ao ca es xo ls W := ⟨by rw [hW]; exact .start hq.hat hx.hat, hl, by have := hx.hsm; omega⟩
  have HWK := Nu.hid (wakes12_any W)
  have HWW := Nu.hid hW
  have HG0 := Nu.hid hG0
  have hl24 := hG0.l24
  have hll := hx.hsm
  have HE0 := Nu.hid hq.hat
  have hWs : w.heap.size < W.heap.size := by rw [hW]; simp
  clear hq hx hG0 hW
  go_enter Try.func8, Try.ntmps8
  go_wp2_with (go_at_call 9; rw [← HWW.out]; refine HWK.out.mono ?_; rintro e w2 ⟨rfl, hb1⟩; refine Hid.out ?_)
  refine Nu.hid ?_
  have HG1 := Nu.hid (HG0.out.later hb1)
  have hw2s := hb1.size
  clear hb1 HWK
  have G2 := Nu.hid HG1.out.gr
  obtain ⟨i0, hi, hz0, hz1, hz2⟩ := info_parts Try.infoNum
  go_wp2
  go_loopw [7, 5, 6] (fun c m v wr => ∃ (k : Nat) (ms ws : List Value), k ≤ ls.length ∧ c = .int .i64 (k : Int) ∧ RowsZ wr w2.heap.size m ms (ls.take k) ∧ RowsZ wr w2.heap.size v ws ((ls.take k).map (· ++ [-7, -8])) ∧ TwoR m ms v ws ∧ Below w2.heap.size w2 wr) (fun c _ _ _ => ls.length - (intOf c).toNat)
  case atStart => exact ⟨0, [], [], Nat.zero_le _, rfl, RowsZ.nil _ _, RowsZ.nil _ _, ⟨fun b h => by simp [Value.ownBlock] at h, fun u x b h => by simp at h, fun u x b h => by simp at h⟩, Below.refl _ _⟩
  case round =>
    obtain ⟨k, ms, ws, hk, rfl, hm, hw, ht, hb⟩ := hrel
    obtain ⟨W0, rfl⟩ : ∃ W0, W0 = wr := ⟨_, rfl⟩
    obtain ⟨mo, mc, rfl⟩ := row_shape hm
    obtain ⟨vo, vc, rfl⟩ := row_shape hw
    have HMR := Nu.hid hm
    have HWR := Nu.hid hw
    have HTW := Nu.hid ht
    have HB := Nu.hid hb
    have hb2s := hb.size
    obtain ⟨qm, hqm⟩ : ∃ q, q = (ls.take k).length := ⟨_, rfl⟩
    obtain ⟨qw, hqw⟩ : ∃ q, q = ((ls.take k).map (· ++ [-7, -8])).length := ⟨_, rfl⟩
    rw [← hqm, ← hqw]
    rw [← hqm] at HMR HTW
    rw [← hqw] at HWR HTW
    have hqmb : qm ≤ k := by rw [hqm]; simp; omega
    have hqwb : qw ≤ k := by rw [hqw]; simp; omega
    have HQM := Nu.hid hqm
    have HQW := Nu.hid hqw
    clear hm hw ht hb hqm hqw
    by_cases hlt : k < ls.length
    · have hlti : (k : Int) < (ls.length : Int) := by omega
      have hk0 : (0 : Int) ≤ (k : Int) := by omega
      obtain ⟨l, hlk⟩ : ∃ l, ls[k]? = some l := ⟨_, List.getElem?_eq_getElem hlt⟩
      have HLK := Nu.hid hlk
      obtain ⟨b, o, A, C, rfl, hcell, hL, hln, hC, hC2⟩ := G2.out.rows k l hlk
      have hbl : b < w2.heap.size := block_lt_of_cell hcell
      have hcr := (HB.out.cell (p := ⟨b, o + k, none⟩) hbl).trans hcell
      have HL := Nu.hid (hL.later HB.out)
      obtain ⟨p1, hp1⟩ : ∃ p, p = l.length := ⟨_, rfl⟩
      rw [← hp1] at hcr HL hln hC
      obtain ⟨c2, hc2⟩ : ∃ c2, c2 = p1 + 2 := ⟨_, rfl⟩
      have hc2b : c2 ≤ 17592186043906 := by omega
      have HC2 := Nu.hid hc2
      have HP := Nu.hid hp1
      have HCR := Nu.hid hcr
      have hblr : b < W0.heap.size := by omega
      clear hcell hL hlk hp1 hc2
      go_wp2_with (at_builtin; refine wpList_copy_lst rfl _ _ rfl W0 A p1 C l rfl rfl HL.out (by omega) ?_; refine Hid.out ?_)
      refine Nu.hid ?_
      intro gb4 cb4 w4 ho4' hgb4 hgl4 hnc4 hb4
      have ho4 : OwnZ w4 W0.heap.size (.slice (some ⟨gb4, 0, none⟩) p1 cb4) l := by
        unfold OwnZ
        rw [← HP.out]
        exact ho4'
      clear ho4' hgb4 hgl4 hnc4
      have HB3 : Hid (Below W0.heap.size W0 W0) := Below.refl _ _
      have HB4 := Nu.hid hb4
      have hs4 := HB4.out.size
      have HO4 := Nu.hid ho4
      clear ho4 hb4
      go_wp2_with (at_builtin; refine wpList_extend rfl _ _ rfl (w4.alloc (.cells #[.int .i64 (-7), .int .i64 (-8)] 3)) W0.heap.size _ l [-7, -8] (World.ownsRow.alloc HO4.out _) (some ⟨w4.heap.size, 0, none⟩) 2 2 ((lit_ints (l := [-7, -8]) (heap_alloc_new _ _)).lst rfl) (by simp; omega) (by have := HP.out; simp; omega) rfl rfl ?_; refine Hid.out ?_)
      refine Nu.hid ?_
      intro v5 w5 ho5 hb5
      have HB5 : Hid (Below W0.heap.size W0 w5) := (HB4.out.trans ((Below.refl W0.heap.size w4).alloc HB4.out.size _)).trans hb5
      obtain ⟨g5, c5, rfl⟩ : ∃ g c, v5 = .slice (some ⟨g, 0, none⟩) c2 c := by
        have e : (l ++ [-7, -8]).length = c2 := by rw [HC2.out, HP.out]; simp
        have h5 := ho5
        unfold OwnZ at h5
        rw [e, HC2.out] at h5
        obtain ⟨g, c, rfl⟩ := own_succ h5
        exact ⟨g, c, by rw [HC2.out]⟩
      have HO5 := Nu.hid ho5
      have hs5 := HB5.out.size
      have hg5 := World.ownsRow.lt ho5 g5 rfl
      clear ho5 hb5
      have HD1 : Hid (∀ (u : Nat) (z : Value) (b : Nat), ws[u]? = some z → z.ownBlock = some b → (Value.slice (some ⟨g5, 0, none⟩) c2 c5).ownBlock ≠ some b) := fun u z b hz hzb e => by
        obtain ⟨x, hx⟩ := HWR.out.at hz
        have h1 := (World.ownsRow.lt (HWR.out.row u z x hz hx) b hzb).2
        have h2 : g5 = b := by simpa [Value.ownBlock] using e
        omega
      have HD2 : Hid (∀ b, (Value.slice vo qw vc).ownBlock = some b → (Value.slice (some ⟨g5, 0, none⟩) c2 c5).ownBlock ≠ some b) := fun b hb e => by
        have h1 := (World.ownsRow.lt HWR.out.outer b hb).2
        have h2 : g5 = b := by simpa [Value.ownBlock] using e
        omega
      have HE1 : Hid (∀ (u : Nat) (z : Value) (b : Nat), ms[u]? = some z → z.ownBlock = some b → (Value.slice (some ⟨g5, 0, none⟩) p1 c5).ownBlock ≠ some b) := fun u z b hz hzb e => by
        obtain ⟨x, hx⟩ := HMR.out.at hz
        have h1 := (World.ownsRow.lt (HMR.out.row u z x hz hx) b hzb).2
        have h2 : g5 = b := by simpa [Value.ownBlock] using e
        omega
      have HE2 : Hid (∀ b, (Value.slice mo qm mc).ownBlock = some b → (Value.slice (some ⟨g5, 0, none⟩) p1 c5).ownBlock ≠ some b) := fun b hb e => by
        have h1 := (World.ownsRow.lt HMR.out.outer b hb).2
        have h2 : g5 = b := by simpa [Value.ownBlock] using e
        omega
      go_wp2_with (at_builtin; refine wpList_pushRowG rfl _ _ 25 Try.underlying25 rfl w5 w2.heap.size (.slice vo qw vc) ws ((ls.take k).map (· ++ [-7, -8])) (.slice (some ⟨g5, 0, none⟩) c2 c5) (l ++ [-7, -8]) (HWR.out.later HB5.out) (HO5.out.lower hb2s) HD1.out HD2.out (by omega) (by rw [← HQW.out]; omega) rfl rfl ?_; refine Hid.out ?_)
      refine Nu.hid ?_
      intro v6 w6 hr6 hkeep6 hv6 hb6
      have hs6 := hb6.size
      have HM6 : Hid (RowsZ w6 w2.heap.size (.slice mo qm mc) ms (ls.take k)) := (HMR.out.later HB5.out).kept fun b hb hlt => hkeep6 b hlt (by
        rcases hb with hb | ⟨u, x, hx, hxb⟩
        · exact HTW.out.1 b hb
        · exact HTW.out.2.1 u x b hx hxb)
      have HO6 : Hid (OwnZ w6 w2.heap.size (.slice (some ⟨g5, 0, none⟩) p1 c5) l) := by
        have h6 : OwnZ w6 w2.heap.size (.slice (some ⟨g5, 0, none⟩) c2 c5) (l ++ [-7, -8]) := (HO5.out.lower hb2s).same fun g hg hlt => hkeep6 g hlt (fun e => HD2.out g e hg)
        unfold OwnZ at h6 ⊢
        rw [List.length_append, List.map_append, ← HP.out, HC2.out] at h6
        rw [← HP.out]
        exact own_prefix (i := 2) h6 (by rw [List.length_map, HP.out])
      obtain ⟨ao6, q6, ac6, rfl⟩ : ∃ ao q c, v6 = .slice ao q c := by
        obtain ⟨a, c, e⟩ := row_shape hr6
        exact ⟨_, _, _, e⟩
      have HR6 := Nu.hid hr6
      have HK6 := Nu.hid hkeep6
      have HV6 := Nu.hid hv6
      have HB6 := Nu.hid hb6
      have hp1c5 : (p1 : Int) ≤ (c5 : Int) := by
        rcases HO6.out.2 with ⟨e, _⟩ | ⟨g, cap, cur, e, _, _, h1, _⟩
        · cases e
        · cases e
          omega
      have hcr6 : w6.cell? ⟨b, o + k, none⟩ = some (.slice A p1 C) := by
        have h1 := (HB5.out.cell (p := ⟨b, o + k, none⟩) hblr).trans HCR.out
        have h2 := hb6.cell (p := ⟨b, o + k, none⟩) hbl
        exact h2.trans h1
      clear hr6 hkeep6 hv6 hb6
      go_wp2_with (at_builtin; refine wpList_pushRowG rfl _ _ 26 Try.underlying26 rfl w6 w2.heap.size (.slice mo qm mc) ms (ls.take k) (.slice (some ⟨g5, 0, none⟩) p1 c5) l HM6.out HO6.out HE1.out HE2.out (by omega) (by rw [← HQM.out]; omega) rfl rfl ?_; refine Hid.out ?_)
      refine Nu.hid ?_
      intro v7 w7 hr7 hkeep7 hv7 hb7
      have hmlt : ∀ b, (Value.slice mo qm mc).ownBlock = some b → b < W0.heap.size := fun b h => (World.ownsRow.lt HMR.out.outer b h).2
      have hmslt : ∀ (u : Nat) (x : Value) (b : Nat), ms[u]? = some x → x.ownBlock = some b → b < W0.heap.size := fun u x b hx hxb => by
        obtain ⟨y, hy⟩ := HMR.out.at hx
        exact (World.ownsRow.lt (HMR.out.row u x y hx hy) b hxb).2
      have hwslt : ∀ (u : Nat) (x : Value) (b : Nat), ws[u]? = some x → x.ownBlock = some b → b < W0.heap.size := fun u x b hx hxb => by
        obtain ⟨y, hy⟩ := HWR.out.at hx
        exact (World.ownsRow.lt (HWR.out.row u x y hx hy) b hxb).2
      have hv6c : ∀ b, (Value.slice ao6 q6 ac6).ownBlock = some b → (Value.slice vo qw vc).ownBlock = some b ∨ w5.heap.size ≤ b := fun b h => by
        rcases HV6.out with e | e
        · exact .inl (by rw [← e]; exact h)
        · exact .inr (e b h)
      have hv6lt : ∀ b, (Value.slice ao6 q6 ac6).ownBlock = some b → b < w6.heap.size := fun b h => (World.ownsRow.lt HR6.out.outer b h).2
      have hv7c : ∀ b, v7.ownBlock = some b → (Value.slice mo qm mc).ownBlock = some b ∨ w6.heap.size ≤ b := fun b h => by
        rcases hv7 with e | e
        · exact .inl (by rw [← e]; exact h)
        · exact .inr (e b h)
      have hsn : ∀ {vs : List Value} {z : Value} {u : Nat} {x : Value}, (vs ++ [z])[u]? = some x → vs[u]? = some x ∨ x = z := fun {vs z u x} h => by
        rw [List.getElem?_append] at h
        split at h
        · exact .inl h
        · exact .inr (by simpa using (List.mem_singleton.1 (List.mem_of_getElem? h)))
      have hgb : ∀ {q : Nat} {b : Nat}, (Value.slice (some ⟨g5, 0, none⟩) q c5).ownBlock = some b → g5 = b := fun {q b} h => by simpa [Value.ownBlock] using h
      have HW7 : Hid (RowsZ w7 w2.heap.size (.slice ao6 q6 ac6) (ws ++ [.slice (some ⟨g5, 0, none⟩) c2 c5]) ((ls.take (k + 1)).map (· ++ [-7, -8]))) := by
        show RowsZ _ _ _ _ _
        rw [Ro.take_snoc' HLK.out, List.map_append, List.map_take]
        refine HR6.out.kept fun b hb hlt => hkeep7 b hlt fun e => ?_
        have h0 := hmlt b e
        rcases hb with hb | ⟨u, x, hx, hxb⟩
        · rcases hv6c b hb with h | h
          · exact HTW.out.1 b e h
          · omega
        · rcases hsn hx with h | rfl
          · exact HTW.out.2.2 u x b h hxb e
          · have := hgb hxb
            omega
      have HT7 : Hid (TwoR v7 (ms ++ [.slice (some ⟨g5, 0, none⟩) p1 c5]) (.slice ao6 q6 ac6) (ws ++ [.slice (some ⟨g5, 0, none⟩) c2 c5])) := by
        refine ⟨fun b h e => ?_, fun u x b hx hxb e => ?_, fun u x b hx hxb e => ?_⟩
        · have h1 := hv6lt b e
          rcases hv7c b h with h | h
          · have h0 := hmlt b h
            rcases hv6c b e with e | e
            · exact HTW.out.1 b h e
            · omega
          · omega
        · rcases hsn hx with h | rfl
          · have h0 := hmslt u x b h hxb
            rcases hv6c b e with e | e
            · exact HTW.out.2.1 u x b h hxb e
            · omega
          · have h0 := hgb hxb
            rcases hv6c b e with e | e
            · have := (World.ownsRow.lt HWR.out.outer b e).2
              omega
            · omega
        · rcases hsn hx with h | rfl
          · have h0 := hwslt u x b h hxb
            rcases hv7c b e with e | e
            · exact HTW.out.2.2 u x b h hxb e
            · omega
          · have h0 := hgb hxb
            rcases hv7c b e with e | e
            · have := hmlt b e
              omega
            · omega
      have HR7 : Hid (RowsZ w7 w2.heap.size v7 (ms ++ [.slice (some ⟨g5, 0, none⟩) p1 c5]) (ls.take (k + 1))) := by
        show RowsZ _ _ _ _ _
        rw [Ro.take_snoc' HLK.out]
        exact hr7
      have HB7 : Hid (Below w2.heap.size w2 w7) := (HB.out.trans (HB5.out.mono hb2s)).trans (HB6.out.trans hb7)
      have hwk : IntKind.i64.wrap ((k : Int) + 1) = (k : Int) + 1 := by rw [IntKind.wrap_i64]; omega
      clear hcr6 hr7 hkeep7 hv7 hb7 hmlt hmslt hwslt hv6c hv6lt hv7c hsn hgb
      go_wp2
      go_roundw
      case rel => exact ⟨k + 1, _, _, by omega, by go_num, HR7.out, HW7.out, HT7.out, HB7.out⟩
      case measure => simp [intOf]; omega
    · have hd : ¬ (k : Int) < (ls.length : Int) := by omega
      have hke : ls.take k = ls := List.take_of_length_le (by omega)
      have hmr := HMR.out
      have hwr := HWR.out
      have eqm := HQM.out
      have eqw := HQW.out
      rw [hke] at hmr hwr eqm eqw
      rw [List.length_map] at eqw
      subst eqm
      subst eqw
      have hgs : GS w n ao ca es xo ls W0 := HG1.out.later HB.out
      have hbb : w.heap.size < w2.heap.size := by omega
      repeat (first | exact mid hgs HE0.out rfl hmr hwr hbb | go_step)

set_option maxRecDepth 100000 in
/-- What the walk gives, for every argument and every world. -/
theorem contract (H : Type) (enc : TypeId × Value → H) (W : World) (base : Nat) (args : Array Value) (ds gs : List (DataW H)) (before : List MemPlace)
    (hval : ∀ (j : Nat) t v, Try.f8.params[j]? = some t → args[j]? = some v → Value.okWide Try.prog W .any base t v)
    (hW : DataW.Whole enc Try.prog Try.f8.params.toList Rows.facesOwnSpec.vars false W args.toList ds gs before)
    (hsz : (DataW.weightsEach Try.prog (Try.f8.params.toList ++ (OpenSpec.ofChange Rows.facesOwnSpec).bare.plain.varTypes Try.prog) (ds ++ gs)).all (· ≤ reachBytes) = true)
    :
    Calls Try.prog 8 args W fun e W' => ∃ v, e = .returned v ∧ Rows.facesOwnSpec.post enc Try.prog Try.f8 false true false false W args v W' := by
  have hW' := hW
  obtain ⟨p, q, hA0, hV, rfl, hfz, hnd⟩ := hW
  have hA : DataW.TrodAll enc Try.prog W 0 (fun _ => true) true Try.f8.params.toList args.toList ds p := hA0
  rw [Try.params8] at hA hval hsz
  obtain ⟨v0, vs0, d0, ds0, p0, q0, hargs, rfl, rfl, h0, r0⟩ := trodAll_cons hA
  obtain ⟨v1, vs1, d1, ds1, p1, q1, rfl, rfl, rfl, h1, r1⟩ := trodAll_cons r0
  obtain ⟨rfl, rfl, rfl⟩ := trodAll_nil r1
  obtain rfl : args = #[v0, v1] := by cases args; simp_all
  obtain ⟨rfl, rfl⟩ := trodVars_none hV
  have k0 := h0
  have lt0 : ∀ x ∈ p0, x.block < W.heap.size := by obtain ⟨m, hm⟩ := k0; exact DataW.trod_lt m _ _ _ hm
  obtain ⟨n0, a0, cap0, q0, rfl, x0, w0, u0⟩ := graph_of_trod (j := 0) (hval 0 24 v0 rfl rfl) h0 hsz rfl rfl
  obtain ⟨a1, len1, cap1, rfl⟩ := okWide_slice Try.underlying26 (hval 1 26 v1 rfl rfl)
  have k1 := h1
  have lt1 : ∀ x ∈ p1, x.block < W.heap.size := by obtain ⟨m, hm⟩ := k1; exact DataW.trod_lt m _ _ _ hm
  obtain ⟨q1, w1⟩ := rows_of_trod (j := 1) Try.underlying26 h1 hsz rfl rfl
  have l1 := w1.hlen
  subst l1
  clear hA0
  refine (walk n0 a0 cap0 q0 a1 cap1 q1 W x0 w0 u0 w1).mono fun e W' ⟨he, bel⟩ => ?_
  subst he
  exact ⟨_, rfl, _, _, _, [], _, [], hW', trodAll_mk1 (shut_bool Try.underlying4 _), (trodAll_cons_mk (Below.trod laidOut (by kernel_rfl) (of_decide_eq_true (by kernel_rfl)) k0 bel lt0) (trodAll_cons_mk (Below.trod laidOut (by kernel_rfl) (of_decide_eq_true (by kernel_rfl)) k1 bel lt1) trodAll_mk0)), rfl, bel.frame _, fun h => by cases h⟩

theorem laid_met (os : Os) : laidMet Try.prog Rows.facesOwnRow.laid ((settled os).forCall (fun _ _ => 0) ⟨#[], #[.agg #[.int .i64 0, .slice none 0 0], .slice none 0 0], []⟩).memory :=
  laidMet_of_run' 100 (by kernel_rfl) (by kernel_rfl)
theorem reads (os : Os) {H : Type} (enc : TypeId × Value → H) : ∃ places, DataW.whole enc Try.prog ((settled os).forCall (fun _ _ => 0) ⟨#[], #[.agg #[.int .i64 0, .slice none 0 0], .slice none 0 0], []⟩).memory Try.f8.params.toList Rows.facesOwnSpec.vars false (#[.agg #[.int .i64 0, .slice none 0 0], .slice none 0 0] : Array Value).toList 8 = some ([.agg [.lit (.int .i64 0), .nil], .nil], [], places) :=
  ⟨[], by kernel_rfl⟩

set_option maxRecDepth 100000 in
theorem lifted (os : Os) (started : os.Started) (H : Type) (enc : TypeId × Value → H) (F : Stop.Interp) :
    ReturnsInHanded {} Try.checked os 8 .any ((OpenSpec.ofChange Rows.facesOwnSpec).preRow enc Try.prog Try.f8 Rows.facesOwnRow.domain false Rows.facesOwnRow.laid) (((OpenSpec.ofChange Rows.facesOwnSpec).at F).post enc Try.prog Try.f8 false true false false) := by
  obtain ⟨places, hx⟩ := reads os enc
  refine returnsInHanded_of_row (C := Try.checked) (s := (OpenSpec.ofChange Rows.facesOwnSpec)) own started (by kernel_rfl) Try.func8
    (witness_row_at (enc := enc) (C := Try.checked) false (settled os) #[.agg #[.int .i64 0, .slice none 0 0], .slice none 0 0] rfl (by kernel_rfl) (by kernel_rfl) (by kernel_rfl)
      (OpenSpec.preRow_of_cond 8 hx (by kernel_rfl) (fun k hk => by cases hk) (by kernel_rfl) (laid_met os))) ?_
  intro W base args ds gs before hval hW _ _ hsz _ _ _
  exact contract H enc W base args ds gs before hval hW hsz 

theorem said : Rows.FacesOwnSaid :=
  OpenClaim.holds_of_cond 8 Try.f8 rfl rfl rfl rfl rfl rfl rfl ⟨rfl, rfl, rfl, rfl, rfl⟩ rfl rfl rfl rfl rfl (by kernel_rfl) Try.func8 (by kernel_rfl)
    (of_decide_eq_true (by kernel_rfl)) (by unfold Func.isWrapper; first | (rw [if_pos (by decide +kernel)]; kernel_rfl) | (rw [if_neg (by decide +kernel)]; exact ⟨rfl, rfl⟩))
    (fun os started H enc _ F => by rw [OpenClaim.pre_eq_preRow]; exact lifted os started H enc F)

end lawFOw

theorem facesOwn_holds : Rows.FacesOwnSaid := lawFOw.said

#print axioms facesOwn_holds
end Go.Proofs.Ytfkmldopfhdbkaa
