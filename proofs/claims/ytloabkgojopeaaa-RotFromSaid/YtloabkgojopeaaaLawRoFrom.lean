/-
  Proved: for every graph and every list of lists the law RotFrom answers true, and both read afterwards as before. No condition.
-/
import Derived.Test.YtloabkgojopeaaaMg10
import Derived.Test.YtloabkgojopeaaaRoROf
import Derived.Test.YtloabkgojopeaaaRoFm
namespace Go.Proofs.Ytloabkgojopeaaa
open Go.ChangeShapes Go.WideShapes Go.ChangeAt Go.RowKit
namespace lawRF

theorem hls_get {es : List (Int × Int)} : ∀ {k : Nat} {ls : List (List Int)} {m : List Int}, m ∈ Ro.hls es k ls → ∃ l ∈ ls, m.length = l.length
  | _, [], _, h => by simp [Ro.hls] at h
  | k, l :: ls, m, h => by
    rw [Ro.hls] at h
    rcases List.mem_cons.1 h with rfl | h
    · exact ⟨l, List.mem_cons_self .., by simp⟩
    · obtain ⟨x, hx, e⟩ := hls_get h
      exact ⟨x, List.mem_cons_of_mem _ hx, e⟩

set_option maxRecDepth 100000 in
set_option maxHeartbeats 16000000 in
theorem walk (n : Int) (ao : Option Addr) (ca : Nat) (es : List (Int × Int)) (xo : Option Addr) (xc : Nat) (ls : List (List Int)) (w : World) (_ : -9223372036854775808 ≤ n ∧ n ≤ 9223372036854775807) (hq : PairsIn w ao es.length ca es) (hle : es.length * 16 ≤ 140737488351232) (hx : RowsIn w xo ls.length xc ls) :
    Calls Try.prog 5 #[.agg #[.int .i64 n, .slice ao es.length ca], .slice xo ls.length xc] w fun e w' => e = .returned (.bool true) ∧ Below w.heap.size w w' := by
  have hll := hx.hsm
  have hG0 : GR _ w n ao ca es xo ls := .start hq.hat hx.hat
  have HG0 := Nu.hid hG0
  obtain ⟨cv, hcv⟩ : ∃ cv, cv = (Ro.check n es (Ro.hls es 0 ls)).1 := ⟨_, rfl⟩
  obtain ⟨cc, hcc⟩ : ∃ cc, cc = (Ro.check n es (Ro.hls es 0 ls)).2 := ⟨_, rfl⟩
  have HFR : Hid (∀ W, GR W w n ao ca es xo ls → Calls Try.prog 11 #[.agg #[.int .i64 n, .slice ao es.length ca], .slice xo ls.length xc] W (FromQ cv cc (Ro.hls es 0 ls) W)) := by
    rw [hcc, hcv]
    exact fun W h => from_any11 n ao ca es xo xc ls W h.edges (by omega) h.rows
  have HOF : Hid (∀ W, GR W w n ao ca es xo ls → Calls Try.prog 22 #[.agg #[.int .i64 n, .slice ao es.length ca], .slice xo ls.length xc] W (FromQ cv cc (Ro.hls es 0 ls) W)) := by
    rw [hcc, hcv]
    exact fun W h => r11of_any n ao ca es xo xc ls W h.edges (by omega) h.rows
  have HROT : Hid (cc = 0 → Ro.Rot n es (Ro.hls es 0 ls)) := fun h => Ro.check_iff.1 (by rw [← hcc]; exact h)
  have hmin : ∀ l ∈ Ro.hls es 0 ls, l.length ≤ 17592186043904 := fun m hm => by
    obtain ⟨l, hl, e⟩ := hls_get hm
    obtain ⟨v, hv⟩ := List.mem_iff_getElem?.1 hl
    obtain ⟨_, _, _, _, _, _, _, hln, _⟩ := hx.hat v l hv
    rw [e]
    exact hln
  have HMIN := Nu.hid hmin
  have HALN := Nu.hid (Ro.hls_len es 0 ls)
  clear hq hx hG0 hmin hcv hcc
  go_enter Try.func5, Try.ntmps5
  go_wp2_with (go_at_call 15; refine (fixed11_any _).mono ?_; rintro e w1 ⟨rfl, hb⟩; refine Hid.out ?_)
  refine Nu.hid ?_
  have G1 := Nu.hid (HG0.out.later hb)
  obtain ⟨x0, x1⟩ := G1.out.cells
  clear hb HG0
  by_cases hc : cc = 0
  · subst hc
    have hrot := HROT.out rfl
    have hval := Si.valid_iff.1 hrot.val
    have hhi := hval.hi
    have hlen := hrot.len
    rw [HALN.out] at hlen
    have HLS : Hid (ls.length ≤ 1048576) := by show _ ≤ _; omega
    clear hrot hval hlen HROT hhi
    go_wp2_with (go_at_call 11; refine (HFR.out _ G1.out).mono ?_; refine Hid.out ?_)
    refine Nu.hid ?_
    rintro e w6 ⟨hb, ⟨h, -⟩ | ⟨-, v6, vs6, rfl, hr6⟩⟩
    · exact absurd rfl h
    obtain ⟨yo, yc, rfl, hy6, -⟩ := hr6.rws HMIN.out
    have G6 := Nu.hid (G1.out.later hb)
    have HY6 := Nu.hid hy6
    rw [HALN.out]
    clear hb hy6 hr6 G1 x0 x1
    obtain ⟨x0, x1⟩ := G6.out.cells
    go_wp2_with (go_at_call 22; refine (HOF.out _ G6.out).mono ?_; refine Hid.out ?_)
    refine Nu.hid ?_
    rintro e w7 ⟨hb, ⟨h, -⟩ | ⟨-, v7, vs7, rfl, hr7⟩⟩
    · exact absurd rfl h
    obtain ⟨zo, zc, rfl, hz7, -⟩ := hr7.rws HMIN.out
    have G7 := Nu.hid (G6.out.later hb).low
    have HY6 := Nu.hid (HY6.out.later hb)
    have HZ7 := Nu.hid hz7
    rw [HALN.out]
    clear hb hz7 hr7 G6 x0 x1
    have HEQ := Nu.hid (equal11_any yo zo yc zc (Ro.hls es 0 ls) (Ro.hls es 0 ls) w7 HY6.out HZ7.out (by rw [HALN.out]; have := HLS.out; omega))
    rw [decide_eq_true rfl, HALN.out] at HEQ
    go_wp2_with (go_at_call 12; refine HEQ.out.mono ?_; rintro e w9 ⟨rfl, hb⟩; refine Hid.out ?_)
    refine Nu.hid ?_
    have G9 := Nu.hid (G7.out.trans (hb.mono G7.out.size))
    clear hb HEQ
    go_wp2
    go_ret
    exact ⟨rfl, G9.out⟩
  · clear HROT
    go_wp2_with (go_at_call 11; refine (HFR.out _ G1.out).mono ?_; refine Hid.out ?_)
    refine Nu.hid ?_
    rintro e w6 ⟨hb, ⟨-, rfl⟩ | ⟨h, -⟩⟩
    case inr => exact absurd h hc
    have G6 := Nu.hid (G1.out.later hb)
    clear hb G1 x0 x1
    obtain ⟨x0, x1⟩ := G6.out.cells
    go_wp2_with (go_at_call 22; refine (HOF.out _ G6.out).mono ?_; refine Hid.out ?_)
    refine Nu.hid ?_
    rintro e w7 ⟨hb, ⟨-, rfl⟩ | ⟨h, -⟩⟩
    case inr => exact absurd h hc
    have G7 := Nu.hid (G6.out.later hb).low
    clear hb G6 x0 x1
    have HEQ := Nu.hid (equal11_any none none 0 0 [] [] w7 (RwsAt.nil _ _) (RwsAt.nil _ _) (by simp))
    rw [decide_eq_true rfl] at HEQ
    go_wp2_with (go_at_call 12; refine HEQ.out.mono ?_; rintro e w9 ⟨rfl, hb⟩; refine Hid.out ?_)
    refine Nu.hid ?_
    have G9 := Nu.hid (G7.out.trans (hb.mono G7.out.size))
    clear hb HEQ
    go_wp2
    go_ret
    exact ⟨rfl, G9.out⟩

set_option maxRecDepth 100000 in
/-- What the walk gives, for every argument and every world. -/
theorem contract (H : Type) (enc : TypeId × Value → H) (W : World) (base : Nat) (args : Array Value) (ds gs : List (DataW H)) (before : List MemPlace)
    (hval : ∀ (j : Nat) t v, Try.f5.params[j]? = some t → args[j]? = some v → Value.okWide Try.prog W .any base t v)
    (hW : DataW.Whole enc Try.prog Try.f5.params.toList Rows.rotFromSpec.vars false W args.toList ds gs before)
    (hsz : (DataW.weightsEach Try.prog (Try.f5.params.toList ++ (OpenSpec.ofChange Rows.rotFromSpec).bare.plain.varTypes Try.prog) (ds ++ gs)).all (· ≤ reachBytes) = true)
    :
    Calls Try.prog 5 args W fun e W' => ∃ v, e = .returned v ∧ Rows.rotFromSpec.post enc Try.prog Try.f5 false true false false W args v W' := by
  have hW' := hW
  obtain ⟨p, q, hA0, hV, rfl, hfz, hnd⟩ := hW
  have hA : DataW.TrodAll enc Try.prog W 0 (fun _ => true) true Try.f5.params.toList args.toList ds p := hA0
  rw [Try.params5] at hA hval hsz
  obtain ⟨v0, vs0, d0, ds0, p0, q0, hargs, rfl, rfl, h0, r0⟩ := trodAll_cons hA
  obtain ⟨v1, vs1, d1, ds1, p1, q1, rfl, rfl, rfl, h1, r1⟩ := trodAll_cons r0
  obtain ⟨rfl, rfl, rfl⟩ := trodAll_nil r1
  obtain rfl : args = #[v0, v1] := by cases args; simp_all
  obtain ⟨rfl, rfl⟩ := trodVars_none hV
  have k0 := h0
  have lt0 : ∀ x ∈ p0, x.block < W.heap.size := by obtain ⟨m, hm⟩ := k0; exact DataW.trod_lt m _ _ _ hm
  obtain ⟨n0, a0, cap0, q0, rfl, x0, w0, u0⟩ := graph_of_trod (j := 0) (hval 0 30 v0 rfl rfl) h0 hsz rfl rfl
  obtain ⟨a1, len1, cap1, rfl⟩ := okWide_slice Try.underlying23 (hval 1 23 v1 rfl rfl)
  have k1 := h1
  have lt1 : ∀ x ∈ p1, x.block < W.heap.size := by obtain ⟨m, hm⟩ := k1; exact DataW.trod_lt m _ _ _ hm
  obtain ⟨q1, w1⟩ := rows_of_trod (j := 1) Try.underlying23 h1 hsz rfl rfl
  have l1 := w1.hlen
  subst l1
  clear hA0
  refine (walk n0 a0 cap0 q0 a1 cap1 q1 W x0 w0 u0 w1).mono fun e W' ⟨he, bel⟩ => ?_
  subst he
  exact ⟨_, rfl, _, _, _, [], _, [], hW', trodAll_mk1 (shut_bool Try.underlying4 _), (trodAll_cons_mk (Below.trod laidOut (by kernel_rfl) (of_decide_eq_true (by kernel_rfl)) k0 bel lt0) (trodAll_cons_mk (Below.trod laidOut (by kernel_rfl) (of_decide_eq_true (by kernel_rfl)) k1 bel lt1) trodAll_mk0)), rfl, bel.frame _, fun h => by cases h⟩

theorem laid_met (os : Os) : laidMet Try.prog Rows.rotFromRow.laid ((settled os).forCall (fun _ _ => 0) ⟨#[], #[.agg #[.int .i64 0, .slice none 0 0], .slice none 0 0], []⟩).memory :=
  laidMet_of_run' 100 (by kernel_rfl) (by kernel_rfl)
theorem reads (os : Os) {H : Type} (enc : TypeId × Value → H) : ∃ places, DataW.whole enc Try.prog ((settled os).forCall (fun _ _ => 0) ⟨#[], #[.agg #[.int .i64 0, .slice none 0 0], .slice none 0 0], []⟩).memory Try.f5.params.toList Rows.rotFromSpec.vars false (#[.agg #[.int .i64 0, .slice none 0 0], .slice none 0 0] : Array Value).toList 8 = some ([.agg [.lit (.int .i64 0), .nil], .nil], [], places) :=
  ⟨[], by kernel_rfl⟩

set_option maxRecDepth 100000 in
theorem lifted (os : Os) (started : os.Started) (H : Type) (enc : TypeId × Value → H) (F : Stop.Interp) :
    ReturnsInHanded {} Try.checked os 5 .any ((OpenSpec.ofChange Rows.rotFromSpec).preRow enc Try.prog Try.f5 Rows.rotFromRow.domain false Rows.rotFromRow.laid) (((OpenSpec.ofChange Rows.rotFromSpec).at F).post enc Try.prog Try.f5 false true false false) := by
  obtain ⟨places, hx⟩ := reads os enc
  refine returnsInHanded_of_row (C := Try.checked) (s := (OpenSpec.ofChange Rows.rotFromSpec)) own started (by kernel_rfl) Try.func5
    (witness_row_at (enc := enc) (C := Try.checked) false (settled os) #[.agg #[.int .i64 0, .slice none 0 0], .slice none 0 0] rfl (by kernel_rfl) (by kernel_rfl) (by kernel_rfl)
      (OpenSpec.preRow_of_cond 8 hx (by kernel_rfl) (fun k hk => by cases hk) (by kernel_rfl) (laid_met os))) ?_
  intro W base args ds gs before hval hW _ _ hsz _ _ _
  exact contract H enc W base args ds gs before hval hW hsz 

theorem said : Rows.RotFromSaid :=
  OpenClaim.holds_of_cond 5 Try.f5 rfl rfl rfl rfl rfl rfl rfl ⟨rfl, rfl, rfl, rfl, rfl⟩ rfl rfl rfl rfl rfl (by kernel_rfl) Try.func5 (by kernel_rfl)
    (of_decide_eq_true (by kernel_rfl)) (by unfold Func.isWrapper; first | (rw [if_pos (by decide +kernel)]; kernel_rfl) | (rw [if_neg (by decide +kernel)]; exact ⟨rfl, rfl⟩))
    (fun os started H enc _ F => by rw [OpenClaim.pre_eq_preRow]; exact lifted os started H enc F)

end lawRF

theorem rotFrom_holds : Rows.RotFromSaid := lawRF.said

#print axioms rotFrom_holds
end Go.Proofs.Ytloabkgojopeaaa
