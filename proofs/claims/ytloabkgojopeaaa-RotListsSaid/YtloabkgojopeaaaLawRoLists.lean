/-
  Proved: for every two lists of lists the law RotLists answers true, and both read afterwards as before. No condition.
-/
import Derived.Test.YtloabkgojopeaaaMg10
import Derived.Test.YtloabkgojopeaaaMg12
import Derived.Test.YtloabkgojopeaaaRoSm
import Derived.Test.YtloabkgojopeaaaRoRSm
namespace Go.Proofs.Ytloabkgojopeaaa
open Go.ChangeShapes Go.WideShapes Go.ChangeAt Go.RowKit

theorem Ro.Tns.refl (ls : List (List Int)) : Ro.Tns ls ls := ⟨rfl, fun v x y h1 h2 => by rw [h1] at h2; cases h2; exact Ro.Tn.refl x⟩

theorem Tns_bool {ls ms : List (List Int)} {T : Bool} (h : T = true ↔ Ro.Tns ls ms) {e : Ending} (he : (Ro.Tns ls ms ∧ e = .returned (.bool true)) ∨ (¬ Ro.Tns ls ms ∧ e = .returned (.bool false))) : e = .returned (.bool T) := by
  rcases he with ⟨h1, rfl⟩ | ⟨h1, rfl⟩
  · rw [h.2 h1]
  · cases T with
    | true => exact absurd (h.1 rfl) h1
    | false => rfl

namespace lawRL

set_option maxRecDepth 100000 in
set_option maxHeartbeats 16000000 in
theorem walk (xo : Option Addr) (xc : Nat) (ls : List (List Int)) (yo : Option Addr) (yc : Nat) (ms : List (List Int)) (w : World) (hx : RowsIn w xo ls.length xc ls) (hy : RowsIn w yo ms.length yc ms) :
    Calls Try.prog 6 #[.slice xo ls.length xc, .slice yo ms.length yc] w fun e w' => e = .returned (.bool true) ∧ Below w.heap.size w w' := by
  have hll := hx.hsm
  have hml := hy.hsm
  have HX := Nu.hid hx.hat
  have HY := Nu.hid hy.hat
  have hrow : ∀ l ∈ ls, l.length ≤ 17592186043904 := fun l hl => by
    obtain ⟨v, hv⟩ := List.mem_iff_getElem?.1 hl
    obtain ⟨_, _, _, _, _, _, _, hln, _⟩ := hx.hat v l hv
    exact hln
  have HMC : Hid (∀ l ∈ ls.map Ro.canon1, l.length ≤ 17592186043904) := fun m hm => by
    obtain ⟨l, hl, rfl⟩ := List.mem_map.1 hm
    rw [Ro.canon1_len]
    exact hrow l hl
  have HMM : Hid (∀ l ∈ ls.map (fun l => Ro.canon1 l.reverse), l.length ≤ 17592186043904) := fun m hm => by
    obtain ⟨l, hl, rfl⟩ := List.mem_map.1 hm
    rw [Ro.canon1_len, List.length_reverse]
    exact hrow l hl
  obtain ⟨T, hT⟩ : ∃ T : Bool, T = true ↔ Ro.Tns ls ms := by
    by_cases h : Ro.Tns ls ms
    · exact ⟨true, by simp [h]⟩
    · exact ⟨false, by simp [h]⟩
  have HT := Nu.hid hT
  clear hx hy hrow hT
  go_enter Try.func6, Try.ntmps6
  go_wp2_with (go_at_call 15; refine (fixed11_any _).mono ?_; rintro e w1 ⟨rfl, hb⟩; refine Hid.out ?_)
  refine Nu.hid ?_
  have X1 := Nu.hid (HX.out.later hb)
  have Y1 := Nu.hid (HY.out.later hb)
  have B1 := Nu.hid hb
  have HC := Nu.hid (canon_any xo xc ls w1 X1.out (by omega))
  clear hb HX HY
  go_wp2_with (go_at_call 23; refine HC.out.mono ?_; refine Hid.out ?_)
  refine Nu.hid ?_
  rintro e w2 ⟨v2, vs2, rfl, hr, hb⟩
  obtain ⟨po, pc, rfl, hp, -⟩ := hr.rws HMC.out
  have P2 := Nu.hid hp
  have X2 := Nu.hid (X1.out.later hb)
  have Y2 := Nu.hid (Y1.out.later hb)
  have B2 := Nu.hid (B1.out.trans (hb.mono B1.out.size))
  rw [List.length_map]
  have HC := Nu.hid (r11canon_any xo xc ls w2 X2.out (by omega))
  clear hb hr hp X1 Y1 B1
  go_wp2_with (go_at_call 24; refine HC.out.mono ?_; refine Hid.out ?_)
  refine Nu.hid ?_
  rintro e w3 ⟨v3, vs3, rfl, hr, hb⟩
  obtain ⟨qo, qc, rfl, hp, -⟩ := hr.rws HMC.out
  have HE := Nu.hid (equal11_any po qo pc qc (ls.map Ro.canon1) (ls.map Ro.canon1) w3 (P2.out.later hb) hp (by rw [List.length_map]; omega))
  rw [decide_eq_true rfl, List.length_map] at HE
  have X3 := Nu.hid (X2.out.later hb)
  have Y3 := Nu.hid (Y2.out.later hb)
  have B3 := Nu.hid (B2.out.trans (hb.mono B2.out.size))
  rw [List.length_map]
  clear hb hr hp X2 Y2 B2 P2
  go_wp2_with (go_at_call 12; refine HE.out.mono ?_; rintro e w4 ⟨rfl, hb⟩; refine Hid.out ?_)
  refine Nu.hid ?_
  have X4 := Nu.hid (X3.out.later hb)
  have Y4 := Nu.hid (Y3.out.later hb)
  have B4 := Nu.hid (B3.out.trans (hb.mono B3.out.size))
  have HC := Nu.hid (mirror_any xo xc ls w4 X4.out (by omega))
  clear hb HE X3 Y3 B3
  go_wp2_with (go_at_call 13; refine HC.out.mono ?_; refine Hid.out ?_)
  refine Nu.hid ?_
  rintro e w5 ⟨v5, vs5, rfl, hr, hb⟩
  obtain ⟨po, pc, rfl, hp, -⟩ := hr.rws HMM.out
  have P5 := Nu.hid hp
  have X5 := Nu.hid (X4.out.later hb)
  have Y5 := Nu.hid (Y4.out.later hb)
  have B5 := Nu.hid (B4.out.trans (hb.mono B4.out.size))
  rw [List.length_map]
  have HC := Nu.hid (r11mirror_any xo xc ls w5 X5.out (by omega))
  clear hb hr hp X4 Y4 B4
  go_wp2_with (go_at_call 25; refine HC.out.mono ?_; refine Hid.out ?_)
  refine Nu.hid ?_
  rintro e w6 ⟨v6, vs6, rfl, hr, hb⟩
  obtain ⟨qo, qc, rfl, hp, -⟩ := hr.rws HMM.out
  have HE := Nu.hid (equal11_any po qo pc qc (ls.map fun l => Ro.canon1 l.reverse) (ls.map fun l => Ro.canon1 l.reverse) w6 (P5.out.later hb) hp (by rw [List.length_map]; omega))
  rw [decide_eq_true rfl, List.length_map] at HE
  have X6 := Nu.hid (X5.out.later hb)
  have Y6 := Nu.hid (Y5.out.later hb)
  have B6 := Nu.hid (B5.out.trans (hb.mono B5.out.size))
  rw [List.length_map]
  clear hb hr hp X5 Y5 B5 P5
  go_wp2_with (go_at_call 12; refine HE.out.mono ?_; rintro e w7 ⟨rfl, hb⟩; refine Hid.out ?_)
  refine Nu.hid ?_
  have X7 := Nu.hid (X6.out.later hb)
  have Y7 := Nu.hid (Y6.out.later hb)
  have B7 := Nu.hid (B6.out.trans (hb.mono B6.out.size))
  have HS : Hid (∀ W, RwsAt W xo ls → RwsAt W yo ms → Calls Try.prog 14 #[.slice xo ls.length xc, .slice yo ms.length yc] W fun e w' => e = .returned (.bool T) ∧ Below W.heap.size W w') := fun W h1 h2 => (same11_any xo yo xc yc ls ms W h1 h2 (by omega)).mono fun e w' h => ⟨by rw [Tns_bool HT.out h.2], h.1⟩
  have HRS : Hid (∀ W, RwsAt W xo ls → RwsAt W yo ms → Calls Try.prog 26 #[.slice xo ls.length xc, .slice yo ms.length yc] W fun e w' => e = .returned (.bool T) ∧ Below W.heap.size W w') := fun W h1 h2 => (r11same_any xo yo xc yc ls ms W h1 h2 (by omega)).mono fun e w' h => ⟨by rw [Tns_bool HT.out h.2], h.1⟩
  clear hb HE X6 Y6 B6
  go_wp2_with (go_at_call 14; refine (HS.out _ X7.out Y7.out).mono ?_; rintro e w8 ⟨rfl, hb⟩; refine Hid.out ?_)
  refine Nu.hid ?_
  have X8 := Nu.hid (X7.out.later hb)
  have Y8 := Nu.hid (Y7.out.later hb)
  have B8 := Nu.hid (B7.out.trans (hb.mono B7.out.size))
  clear hb HS X7 Y7 B7
  go_wp2_with (go_at_call 26; refine (HRS.out _ X8.out Y8.out).mono ?_; rintro e w9 ⟨rfl, hb⟩; refine Hid.out ?_)
  refine Nu.hid ?_
  have X9 := Nu.hid (X8.out.later hb)
  have B9 := Nu.hid (B8.out.trans (hb.mono B8.out.size))
  have HSS : Hid (Calls Try.prog 14 #[.slice xo ls.length xc, .slice xo ls.length xc] w9 fun e w' => e = .returned (.bool true) ∧ Below w9.heap.size w9 w') := (same11_any xo xo xc xc ls ls w9 X9.out X9.out (by omega)).mono fun e w' h => ⟨by rcases h.2 with h | h; exact h.2; exact absurd (Ro.Tns.refl ls) h.1, h.1⟩
  have heq : (T == T) = true := by simp
  clear hb HRS X8 Y8 B8
  cases T
  all_goals
    go_wp2_with (go_at_call 14; refine HSS.out.mono ?_; rintro e w10 ⟨rfl, hb⟩; refine Hid.out ?_)
    refine Nu.hid ?_
    have B10 := Nu.hid (B9.out.trans (hb.mono B9.out.size))
    clear hb HSS
    go_wp2
    go_ret
    exact ⟨rfl, B10.out⟩

set_option maxRecDepth 100000 in
/-- What the walk gives, for every argument and every world. -/
theorem contract (H : Type) (enc : TypeId × Value → H) (W : World) (base : Nat) (args : Array Value) (ds gs : List (DataW H)) (before : List MemPlace)
    (hval : ∀ (j : Nat) t v, Try.f6.params[j]? = some t → args[j]? = some v → Value.okWide Try.prog W .any base t v)
    (hW : DataW.Whole enc Try.prog Try.f6.params.toList Rows.rotListsSpec.vars false W args.toList ds gs before)
    (hsz : (DataW.weightsEach Try.prog (Try.f6.params.toList ++ (OpenSpec.ofChange Rows.rotListsSpec).bare.plain.varTypes Try.prog) (ds ++ gs)).all (· ≤ reachBytes) = true)
    :
    Calls Try.prog 6 args W fun e W' => ∃ v, e = .returned v ∧ Rows.rotListsSpec.post enc Try.prog Try.f6 false true false false W args v W' := by
  have hW' := hW
  obtain ⟨p, q, hA0, hV, rfl, hfz, hnd⟩ := hW
  have hA : DataW.TrodAll enc Try.prog W 0 (fun _ => true) true Try.f6.params.toList args.toList ds p := hA0
  rw [Try.params6] at hA hval hsz
  obtain ⟨v0, vs0, d0, ds0, p0, q0, hargs, rfl, rfl, h0, r0⟩ := trodAll_cons hA
  obtain ⟨v1, vs1, d1, ds1, p1, q1, rfl, rfl, rfl, h1, r1⟩ := trodAll_cons r0
  obtain ⟨rfl, rfl, rfl⟩ := trodAll_nil r1
  obtain rfl : args = #[v0, v1] := by cases args; simp_all
  obtain ⟨rfl, rfl⟩ := trodVars_none hV
  obtain ⟨a0, len0, cap0, rfl⟩ := okWide_slice Try.underlying24 (hval 0 24 v0 rfl rfl)
  have k0 := h0
  have lt0 : ∀ x ∈ p0, x.block < W.heap.size := by obtain ⟨m, hm⟩ := k0; exact DataW.trod_lt m _ _ _ hm
  obtain ⟨q0, w0⟩ := rows_of_trod (j := 0) Try.underlying24 h0 hsz rfl rfl
  have l0 := w0.hlen
  subst l0
  obtain ⟨a1, len1, cap1, rfl⟩ := okWide_slice Try.underlying24 (hval 1 24 v1 rfl rfl)
  have k1 := h1
  have lt1 : ∀ x ∈ p1, x.block < W.heap.size := by obtain ⟨m, hm⟩ := k1; exact DataW.trod_lt m _ _ _ hm
  obtain ⟨q1, w1⟩ := rows_of_trod (j := 1) Try.underlying24 h1 hsz rfl rfl
  have l1 := w1.hlen
  subst l1
  clear hA0
  refine (walk a0 cap0 q0 a1 cap1 q1 W w0 w1).mono fun e W' ⟨he, bel⟩ => ?_
  subst he
  exact ⟨_, rfl, _, _, _, [], _, [], hW', trodAll_mk1 (shut_bool Try.underlying4 _), (trodAll_cons_mk (Below.trod laidOut (by kernel_rfl) (of_decide_eq_true (by kernel_rfl)) k0 bel lt0) (trodAll_cons_mk (Below.trod laidOut (by kernel_rfl) (of_decide_eq_true (by kernel_rfl)) k1 bel lt1) trodAll_mk0)), rfl, bel.frame _, fun h => by cases h⟩

theorem laid_met (os : Os) : laidMet Try.prog Rows.rotListsRow.laid ((settled os).forCall (fun _ _ => 0) ⟨#[], #[.slice none 0 0, .slice none 0 0], []⟩).memory :=
  laidMet_of_run' 100 (by kernel_rfl) (by kernel_rfl)
theorem reads (os : Os) {H : Type} (enc : TypeId × Value → H) : ∃ places, DataW.whole enc Try.prog ((settled os).forCall (fun _ _ => 0) ⟨#[], #[.slice none 0 0, .slice none 0 0], []⟩).memory Try.f6.params.toList Rows.rotListsSpec.vars false (#[.slice none 0 0, .slice none 0 0] : Array Value).toList 8 = some ([.nil, .nil], [], places) :=
  ⟨[], by kernel_rfl⟩

set_option maxRecDepth 100000 in
theorem lifted (os : Os) (started : os.Started) (H : Type) (enc : TypeId × Value → H) (F : Stop.Interp) :
    ReturnsInHanded {} Try.checked os 6 .any ((OpenSpec.ofChange Rows.rotListsSpec).preRow enc Try.prog Try.f6 Rows.rotListsRow.domain false Rows.rotListsRow.laid) (((OpenSpec.ofChange Rows.rotListsSpec).at F).post enc Try.prog Try.f6 false true false false) := by
  obtain ⟨places, hx⟩ := reads os enc
  refine returnsInHanded_of_row (C := Try.checked) (s := (OpenSpec.ofChange Rows.rotListsSpec)) own started (by kernel_rfl) Try.func6
    (witness_row_at (enc := enc) (C := Try.checked) false (settled os) #[.slice none 0 0, .slice none 0 0] rfl (by kernel_rfl) (by kernel_rfl) (by kernel_rfl)
      (OpenSpec.preRow_of_cond 8 hx (by kernel_rfl) (fun k hk => by cases hk) (by kernel_rfl) (laid_met os))) ?_
  intro W base args ds gs before hval hW _ _ hsz _ _ _
  exact contract H enc W base args ds gs before hval hW hsz 

theorem said : Rows.RotListsSaid :=
  OpenClaim.holds_of_cond 6 Try.f6 rfl rfl rfl rfl rfl rfl rfl ⟨rfl, rfl, rfl, rfl, rfl⟩ rfl rfl rfl rfl rfl (by kernel_rfl) Try.func6 (by kernel_rfl)
    (of_decide_eq_true (by kernel_rfl)) (by unfold Func.isWrapper; first | (rw [if_pos (by decide +kernel)]; kernel_rfl) | (rw [if_neg (by decide +kernel)]; exact ⟨rfl, rfl⟩))
    (fun os started H enc _ F => by rw [OpenClaim.pre_eq_preRow]; exact lifted os started H enc F)

end lawRL

theorem rotLists_holds : Rows.RotListsSaid := lawRL.said

#print axioms rotLists_holds
end Go.Proofs.Ytloabkgojopeaaa
