/-
  Proved: for every graph and every list of lists the law RotChecks answers true, and both read afterwards as before. No condition.
-/
import Derived.Test.YtloabkgojopeaaaMg10
import Derived.Test.YtloabkgojopeaaaMg12
import Derived.Test.YtloabkgojopeaaaMg09
import Derived.Test.YtloabkgojopeaaaMg13
namespace Go.Proofs.Ytloabkgojopeaaa
open Go.ChangeShapes Go.WideShapes Go.ChangeAt Go.RowKit
namespace lawRC

set_option maxRecDepth 100000 in
set_option maxHeartbeats 16000000 in
theorem walk (n : Int) (ao : Option Addr) (ca : Nat) (es : List (Int × Int)) (xo : Option Addr) (xc : Nat) (ls : List (List Int)) (w : World) (_ : -9223372036854775808 ≤ n ∧ n ≤ 9223372036854775807) (hq : PairsIn w ao es.length ca es) (hle : es.length * 16 ≤ 140737488351232) (hx : RowsIn w xo ls.length xc ls) :
    Calls Try.prog 4 #[.agg #[.int .i64 n, .slice ao es.length ca], .slice xo ls.length xc] w fun e w' => e = .returned (.bool true) ∧ Below w.heap.size w w' := by
  have hll := hx.hsm
  have hG0 : GR _ w n ao ca es xo ls := .start hq.hat hx.hat
  have HG0 := Nu.hid hG0
  obtain ⟨cv, hcv⟩ : ∃ cv, cv = (Ro.check n es ls).1 := ⟨_, rfl⟩
  obtain ⟨cc, hcc⟩ : ∃ cc, cc = (Ro.check n es ls).2 := ⟨_, rfl⟩
  have HCK : Hid (∀ W, GR W w n ao ca es xo ls → Calls Try.prog 16 #[.agg #[.int .i64 n, .slice ao es.length ca], .slice xo ls.length xc] W (CkQ cv cc W)) := by
    rw [hcc, hcv]
    exact fun W h => rcheck_any n ao ca es xo xc ls W h.edges (by omega) h.rows
  have HRK : Hid (∀ W, GR W w n ao ca es xo ls → Calls Try.prog 17 #[.agg #[.int .i64 n, .slice ao es.length ca], .slice xo ls.length xc] W (CkQ cv cc W)) := by
    rw [hcc, hcv]
    exact fun W h => r11check_any n ao ca es xo xc ls W h.edges (by omega) h.rows
  have HNX : Hid (∀ W, GR W w n ao ca es xo ls → Calls Try.prog 18 #[.agg #[.int .i64 n, .slice ao es.length ca], .slice xo ls.length xc] W (NextQ cc (Ro.nextL es ls) (2 * es.length) W)) := by
    rw [hcc]
    exact fun W h => rnext_any n ao ca es xo xc ls W h.edges (by omega) h.rows
  have HRX : Hid (∀ W, GR W w n ao ca es xo ls → Calls Try.prog 19 #[.agg #[.int .i64 n, .slice ao es.length ca], .slice xo ls.length xc] W (NextQ cc (Ro.nextL es ls) (2 * es.length) W)) := by
    rw [hcc]
    exact fun W h => r11next_any n ao ca es xo xc ls W h.edges (by omega) h.rows
  have HAR : Hid (∀ W, GR W w n ao ca es xo ls → Calls Try.prog 9 #[.agg #[.int .i64 n, .slice ao es.length ca], .slice xo ls.length xc] W (AroundQ cc (Ro.around es ls) W)) := by
    rw [hcc]
    exact fun W h => around_any n ao ca es xo xc ls W h.edges (by omega) h.rows
  have HRA : Hid (∀ W, GR W w n ao ca es xo ls → Calls Try.prog 20 #[.agg #[.int .i64 n, .slice ao es.length ca], .slice xo ls.length xc] W (AroundQ cc (Ro.around es ls) W)) := by
    rw [hcc]
    exact fun W h => r11around_any n ao ca es xo xc ls W h.edges (by omega) h.rows
  have HROT : Hid (cc = 0 → Ro.Rot n es ls) := fun h => Ro.check_iff.1 (by rw [← hcc]; exact h)
  have hmin : ∀ l ∈ Ro.around es ls, l.length ≤ 17592186043904 := fun m hm => by
    obtain ⟨l, hl, rfl⟩ := List.mem_map.1 hm
    obtain ⟨v, hv⟩ := List.mem_iff_getElem?.1 hl
    obtain ⟨_, _, _, _, _, _, _, hln, _⟩ := hx.hat v l hv
    rw [Ro.toL_len]
    exact hln
  have HMIN := Nu.hid hmin
  have hal : (Ro.around es ls).length = ls.length := by simp [Ro.around]
  have HALN := Nu.hid hal
  clear hq hx hG0 hmin hal hcv hcc
  go_enter Try.func4, Try.ntmps4
  go_wp2_with (go_at_call 15; refine (fixed11_any _).mono ?_; rintro e w1 ⟨rfl, hb⟩; refine Hid.out ?_)
  refine Nu.hid ?_
  have G1 := Nu.hid (HG0.out.later hb)
  obtain ⟨x0, x1⟩ := G1.out.cells
  clear hb HG0
  go_wp2_with (go_at_call 16; refine (HCK.out _ G1.out).mono ?_; rintro e w2 ⟨rfl, hb⟩; refine Hid.out ?_)
  refine Nu.hid ?_
  have G2 := Nu.hid (G1.out.later hb)
  clear hb G1 x0 x1
  obtain ⟨x0, x1⟩ := G2.out.cells
  go_wp2_with (go_at_call 17; refine (HRK.out _ G2.out).mono ?_; rintro e w3 ⟨rfl, hb⟩; refine Hid.out ?_)
  refine Nu.hid ?_
  have G3 := Nu.hid (G2.out.later hb)
  clear hb G2 x0 x1
  obtain ⟨x0, x1⟩ := G3.out.cells
  by_cases hc : cc = 0
  · subst hc
    have hrot := HROT.out rfl
    have hval := Si.valid_iff.1 hrot.val
    have hfew := hval.few
    have hhi := hval.hi
    have hlen := hrot.len
    have HLS : Hid (ls.length ≤ 1048576) := by show _ ≤ _; omega
    obtain ⟨M, hM⟩ : ∃ M, M = 2 * es.length := ⟨_, rfl⟩
    have hMb : M ≤ 8388608 := by omega
    rw [← hM] at HNX HRX
    have HML : Hid ((Ro.nextL es ls).length = M) := by show _ = _; rw [Ro.nextL_len, hM]
    clear hrot hval hlen hM HROT hhi
    go_wp2_with (go_at_call 18; refine (HNX.out _ G3.out).mono ?_; refine Hid.out ?_)
    refine Nu.hid ?_
    rintro e w4 ⟨hb, ⟨h, -⟩ | ⟨-, g4, rfl, -, hi4⟩⟩
    · exact absurd rfl h
    have G4 := Nu.hid (G3.out.later hb)
    have HI4 := Nu.hid hi4.at
    clear hb hi4 G3 x0 x1
    obtain ⟨x0, x1⟩ := G4.out.cells
    go_wp2_with (go_at_call 19; refine (HRX.out _ G4.out).mono ?_; refine Hid.out ?_)
    refine Nu.hid ?_
    rintro e w5 ⟨hb, ⟨h, -⟩ | ⟨-, g5, rfl, -, hi5⟩⟩
    · exact absurd rfl h
    have G5 := Nu.hid (G4.out.later hb)
    have HI4 := Nu.hid (HI4.out.later hb)
    have HI5 := Nu.hid hi5.at
    clear hb hi5 G4 x0 x1
    obtain ⟨x0, x1⟩ := G5.out.cells
    go_wp2_with (go_at_call 9; refine (HAR.out _ G5.out).mono ?_; refine Hid.out ?_)
    refine Nu.hid ?_
    rintro e w6 ⟨hb, ⟨h, -⟩ | ⟨-, v6, vs6, rfl, hr6⟩⟩
    · exact absurd rfl h
    obtain ⟨yo, yc, rfl, hy6, -⟩ := hr6.rws HMIN.out
    have G6 := Nu.hid (G5.out.later hb)
    have HI4 := Nu.hid (HI4.out.later hb)
    have HI5 := Nu.hid (HI5.out.later hb)
    have HY6 := Nu.hid hy6
    rw [HALN.out]
    clear hb hy6 hr6 G5 x0 x1
    obtain ⟨x0, x1⟩ := G6.out.cells
    go_wp2_with (go_at_call 20; refine (HRA.out _ G6.out).mono ?_; refine Hid.out ?_)
    refine Nu.hid ?_
    rintro e w7 ⟨hb, ⟨h, -⟩ | ⟨-, v7, vs7, rfl, hr7⟩⟩
    · exact absurd rfl h
    obtain ⟨zo, zc, rfl, hz7, -⟩ := hr7.rws HMIN.out
    have G7 := Nu.hid (G6.out.later hb).low
    have HI4 := Nu.hid (HI4.out.later hb)
    have HI5 := Nu.hid (HI5.out.later hb)
    have HY6 := Nu.hid (HY6.out.later hb)
    have HZ7 := Nu.hid hz7
    rw [HALN.out]
    clear hb hz7 hr7 G6 x0 x1
    have HAK := Nu.hid (alike_any (some ⟨g4, 0, none⟩) (some ⟨g5, 0, none⟩) M M M M (Ro.nextL es ls) (Ro.nextL es ls) w7 HML.out HML.out HI4.out HI5.out (by omega))
    rw [decide_eq_true rfl] at HAK
    go_wp2_with (go_at_call 21; refine HAK.out.mono ?_; rintro e w8 ⟨rfl, hb⟩; refine Hid.out ?_)
    refine Nu.hid ?_
    have HEQ := Nu.hid (equal11_any yo zo yc zc (Ro.around es ls) (Ro.around es ls) w8 (HY6.out.later hb) (HZ7.out.later hb) (by rw [HALN.out]; have := HLS.out; omega))
    rw [decide_eq_true rfl, HALN.out] at HEQ
    have G8 := Nu.hid (G7.out.trans (hb.mono G7.out.size))
    clear hb HAK
    go_wp2_with (go_at_call 12; refine HEQ.out.mono ?_; rintro e w9 ⟨rfl, hb⟩; refine Hid.out ?_)
    refine Nu.hid ?_
    have G9 := Nu.hid (G8.out.trans (hb.mono G8.out.size))
    clear hb HEQ
    go_wp2
    go_ret
    exact ⟨rfl, G9.out⟩
  · have j1 : (cc == 0) = false := beq_false_of_ne hc
    clear HROT
    go_wp2_with (go_at_call 18; refine (HNX.out _ G3.out).mono ?_; refine Hid.out ?_)
    refine Nu.hid ?_
    rintro e w4 ⟨hb, ⟨-, rfl⟩ | ⟨h, -⟩⟩
    case inr => exact absurd h hc
    have G4 := Nu.hid (G3.out.later hb)
    clear hb G3 x0 x1
    obtain ⟨x0, x1⟩ := G4.out.cells
    go_wp2_with (go_at_call 19; refine (HRX.out _ G4.out).mono ?_; refine Hid.out ?_)
    refine Nu.hid ?_
    rintro e w5 ⟨hb, ⟨-, rfl⟩ | ⟨h, -⟩⟩
    case inr => exact absurd h hc
    have G5 := Nu.hid (G4.out.later hb)
    clear hb G4 x0 x1
    obtain ⟨x0, x1⟩ := G5.out.cells
    go_wp2_with (go_at_call 9; refine (HAR.out _ G5.out).mono ?_; refine Hid.out ?_)
    refine Nu.hid ?_
    rintro e w6 ⟨hb, ⟨-, rfl⟩ | ⟨h, -⟩⟩
    case inr => exact absurd h hc
    have G6 := Nu.hid (G5.out.later hb)
    clear hb G5 x0 x1
    obtain ⟨x0, x1⟩ := G6.out.cells
    go_wp2_with (go_at_call 20; refine (HRA.out _ G6.out).mono ?_; refine Hid.out ?_)
    refine Nu.hid ?_
    rintro e w7 ⟨hb, ⟨-, rfl⟩ | ⟨h, -⟩⟩
    case inr => exact absurd h hc
    have G7 := Nu.hid (G6.out.later hb).low
    clear hb G6 x0 x1
    have HAK := Nu.hid (alike_any none none 0 0 0 0 [] [] w7 rfl rfl (IntsAt.nil _ _) (IntsAt.nil _ _) (by omega))
    rw [decide_eq_true rfl] at HAK
    go_wp2_with (go_at_call 21; refine HAK.out.mono ?_; rintro e w8 ⟨rfl, hb⟩; refine Hid.out ?_)
    refine Nu.hid ?_
    have HEQ := Nu.hid (equal11_any none none 0 0 [] [] w8 (RwsAt.nil _ _) (RwsAt.nil _ _) (by simp))
    rw [decide_eq_true rfl] at HEQ
    have G8 := Nu.hid (G7.out.trans (hb.mono G7.out.size))
    clear hb HAK
    go_wp2_with (go_at_call 12; refine HEQ.out.mono ?_; rintro e w9 ⟨rfl, hb⟩; refine Hid.out ?_)
    refine Nu.hid ?_
    have G9 := Nu.hid (G8.out.trans (hb.mono G8.out.size))
    clear hb HEQ
    go_wp2
    go_ret
    exact ⟨rfl, G9.out⟩

set_option maxRecDepth 100000 in
/-- What the walk gives, for every argument and every world. -/
theorem contract (H : Type) (enc : TypeId × Value → H) (W : World) (base : Nat) (args : Array Value) (ds gs : List (DataW H)) (before : List MemPlace)
    (hval : ∀ (j : Nat) t v, Try.f4.params[j]? = some t → args[j]? = some v → Value.okWide Try.prog W .any base t v)
    (hW : DataW.Whole enc Try.prog Try.f4.params.toList Rows.rotChecksSpec.vars false W args.toList ds gs before)
    (hsz : (DataW.weightsEach Try.prog (Try.f4.params.toList ++ (OpenSpec.ofChange Rows.rotChecksSpec).bare.plain.varTypes Try.prog) (ds ++ gs)).all (· ≤ reachBytes) = true)
    :
    Calls Try.prog 4 args W fun e W' => ∃ v, e = .returned v ∧ Rows.rotChecksSpec.post enc Try.prog Try.f4 false true false false W args v W' := by
  have hW' := hW
  obtain ⟨p, q, hA0, hV, rfl, hfz, hnd⟩ := hW
  have hA : DataW.TrodAll enc Try.prog W 0 (fun _ => true) true Try.f4.params.toList args.toList ds p := hA0
  rw [Try.params4] at hA hval hsz
  obtain ⟨v0, vs0, d0, ds0, p0, q0, hargs, rfl, rfl, h0, r0⟩ := trodAll_cons hA
  obtain ⟨v1, vs1, d1, ds1, p1, q1, rfl, rfl, rfl, h1, r1⟩ := trodAll_cons r0
  obtain ⟨rfl, rfl, rfl⟩ := trodAll_nil r1
  obtain rfl : args = #[v0, v1] := by cases args; simp_all
  obtain ⟨rfl, rfl⟩ := trodVars_none hV
  have k0 := h0
  have lt0 : ∀ x ∈ p0, x.block < W.heap.size := by obtain ⟨m, hm⟩ := k0; exact DataW.trod_lt m _ _ _ hm
  obtain ⟨n0, a0, cap0, q0, rfl, x0, w0, u0⟩ := graph_of_trod (j := 0) (hval 0 30 v0 rfl rfl) h0 hsz rfl rfl
  obtain ⟨a1, len1, cap1, rfl⟩ := okWide_slice Try.underlying24 (hval 1 24 v1 rfl rfl)
  have k1 := h1
  have lt1 : ∀ x ∈ p1, x.block < W.heap.size := by obtain ⟨m, hm⟩ := k1; exact DataW.trod_lt m _ _ _ hm
  obtain ⟨q1, w1⟩ := rows_of_trod (j := 1) Try.underlying24 h1 hsz rfl rfl
  have l1 := w1.hlen
  subst l1
  clear hA0
  refine (walk n0 a0 cap0 q0 a1 cap1 q1 W x0 w0 u0 w1).mono fun e W' ⟨he, bel⟩ => ?_
  subst he
  exact ⟨_, rfl, _, _, _, [], _, [], hW', trodAll_mk1 (shut_bool Try.underlying4 _), (trodAll_cons_mk (Below.trod laidOut (by kernel_rfl) (of_decide_eq_true (by kernel_rfl)) k0 bel lt0) (trodAll_cons_mk (Below.trod laidOut (by kernel_rfl) (of_decide_eq_true (by kernel_rfl)) k1 bel lt1) trodAll_mk0)), rfl, bel.frame _, fun h => by cases h⟩

theorem laid_met (os : Os) : laidMet Try.prog Rows.rotChecksRow.laid ((settled os).forCall (fun _ _ => 0) ⟨#[], #[.agg #[.int .i64 0, .slice none 0 0], .slice none 0 0], []⟩).memory :=
  laidMet_of_run' 100 (by kernel_rfl) (by kernel_rfl)
theorem reads (os : Os) {H : Type} (enc : TypeId × Value → H) : ∃ places, DataW.whole enc Try.prog ((settled os).forCall (fun _ _ => 0) ⟨#[], #[.agg #[.int .i64 0, .slice none 0 0], .slice none 0 0], []⟩).memory Try.f4.params.toList Rows.rotChecksSpec.vars false (#[.agg #[.int .i64 0, .slice none 0 0], .slice none 0 0] : Array Value).toList 8 = some ([.agg [.lit (.int .i64 0), .nil], .nil], [], places) :=
  ⟨[], by kernel_rfl⟩

set_option maxRecDepth 100000 in
theorem lifted (os : Os) (started : os.Started) (H : Type) (enc : TypeId × Value → H) (F : Stop.Interp) :
    ReturnsInHanded {} Try.checked os 4 .any ((OpenSpec.ofChange Rows.rotChecksSpec).preRow enc Try.prog Try.f4 Rows.rotChecksRow.domain false Rows.rotChecksRow.laid) (((OpenSpec.ofChange Rows.rotChecksSpec).at F).post enc Try.prog Try.f4 false true false false) := by
  obtain ⟨places, hx⟩ := reads os enc
  refine returnsInHanded_of_row (C := Try.checked) (s := (OpenSpec.ofChange Rows.rotChecksSpec)) own started (by kernel_rfl) Try.func4
    (witness_row_at (enc := enc) (C := Try.checked) false (settled os) #[.agg #[.int .i64 0, .slice none 0 0], .slice none 0 0] rfl (by kernel_rfl) (by kernel_rfl) (by kernel_rfl)
      (OpenSpec.preRow_of_cond 8 hx (by kernel_rfl) (fun k hk => by cases hk) (by kernel_rfl) (laid_met os))) ?_
  intro W base args ds gs before hval hW _ _ hsz _ _ _
  exact contract H enc W base args ds gs before hval hW hsz 

theorem said : Rows.RotChecksSaid :=
  OpenClaim.holds_of_cond 4 Try.f4 rfl rfl rfl rfl rfl rfl rfl ⟨rfl, rfl, rfl, rfl, rfl⟩ rfl rfl rfl rfl rfl (by kernel_rfl) Try.func4 (by kernel_rfl)
    (of_decide_eq_true (by kernel_rfl)) (by unfold Func.isWrapper; first | (rw [if_pos (by decide +kernel)]; kernel_rfl) | (rw [if_neg (by decide +kernel)]; exact ⟨rfl, rfl⟩))
    (fun os started H enc _ F => by rw [OpenClaim.pre_eq_preRow]; exact lifted os started H enc F)

end lawRC

theorem rotChecks_holds : Rows.RotChecksSaid := lawRC.said

#print axioms rotChecks_holds
end Go.Proofs.Ytloabkgojopeaaa
