/-
  Proved: for every graph and every list of lists the law RotNext answers true, and both read afterwards as before. No condition.
-/
import Derived.Test.YtloabkgojopeaaaRoNs
import Derived.Test.YtloabkgojopeaaaMg10
namespace Go.Proofs.Ytloabkgojopeaaa
open Go.ChangeShapes Go.WideShapes Go.ChangeAt Go.RowKit Go.Sort
namespace lawRX

set_option maxRecDepth 100000 in
set_option maxHeartbeats 16000000 in
theorem walk (n : Int) (ao : Option Addr) (ca : Nat) (es : List (Int × Int)) (xo : Option Addr) (xc : Nat) (ls : List (List Int)) (w : World) (_ : -9223372036854775808 ≤ n ∧ n ≤ 9223372036854775807) (hq : PairsIn w ao es.length ca es) (hle : es.length * 16 ≤ 140737488351232) (hx : RowsIn w xo ls.length xc ls) :
    Calls Try.prog 8 #[.agg #[.int .i64 n, .slice ao es.length ca], .slice xo ls.length xc] w fun e w' => e = .returned (.bool true) ∧ Below w.heap.size w w' := by
  have hll := hx.hsm
  have hG0 : GR _ w n ao ca es xo ls := .start hq.hat hx.hat
  have HG0 := Nu.hid hG0
  obtain ⟨cc, hcc⟩ : ∃ cc, cc = (Ro.check n es ls).2 := ⟨_, rfl⟩
  have HNX : Hid (∀ W, GR W w n ao ca es xo ls → Calls Try.prog 18 #[.agg #[.int .i64 n, .slice ao es.length ca], .slice xo ls.length xc] W (NextQ cc (Ro.nextL es ls) (2 * es.length) W)) := by
    rw [hcc]
    exact fun W h => rnext_any n ao ca es xo xc ls W h.edges (by omega) h.rows
  have HROT : Hid (cc = 0 → Ro.Rot n es ls) := fun h => Ro.check_iff.1 (by rw [← hcc]; exact h)
  have HE0 := Nu.hid hq.hat
  clear hq hx hG0 hcc
  go_enter Try.func8, Try.ntmps8
  go_wp2_with (go_at_call 15; refine (fixed11_any _).mono ?_; rintro e w1 ⟨rfl, hb⟩; refine Hid.out ?_)
  refine Nu.hid ?_
  have G1 := Nu.hid (HG0.out.later hb)
  obtain ⟨x0, x1⟩ := G1.out.cells
  clear hb HG0
  by_cases hc : cc = 0
  · subst hc
    have hrot := HROT.out rfl
    have hval := Si.valid_iff.1 hrot.val
    have hfew := hval.few
    have hlo := hval.lo
    have hhi := hval.hi
    obtain ⟨m, rfl⟩ : ∃ m : Nat, n = (m : Int) := ⟨n.toNat, by omega⟩
    obtain ⟨M, hM⟩ : ∃ M, M = 2 * es.length := ⟨_, rfl⟩
    have hMb : M ≤ 8388608 := by omega
    have hmul : IntKind.i64.wrap (2 * (es.length : Int)) = (M : Int) := by rw [IntKind.wrap_i64]; omega
    have hmul2 : 2 * (es.length : Int) = (M : Int) := by omega
    have hm64 : (m : Int) ≤ 1048576 := hhi
    rw [← hM] at HNX
    have HML : Hid ((Ro.nextL es ls).length = M) := by show _ = _; rw [Ro.nextL_len, hM]
    have HRT := Nu.hid hrot
    have HVAL := Nu.hid hval
    have HM := Nu.hid hM
    have HV : Hid (∀ W, EdgesAt W ao es → Calls Try.prog 27 #[.agg #[.int .i64 (m : Int), .slice ao es.length ca]] W fun e w' => e = .returned (.bool true) ∧ Below W.heap.size W w') := fun W h => by
      have := rvalid_any (m : Int) ao ca es W h (by omega)
      rw [hrot.val] at this
      exact this
    have HF : Hid (∀ W (j : Nat), EdgesAt W ao es → j < M → Calls Try.prog 28 #[.agg #[.int .i64 (m : Int), .slice ao es.length ca], .int .i64 (j : Int)] W fun e w' => e = .returned (.int .i64 (Cs.fr es j : Int)) ∧ Below W.heap.size W w') := fun W j h hj =>
      r11from_any m ao ca es j W h hval (by omega)
    obtain ⟨i0, hi, hz0, hz1, hz2⟩ := info_parts Try.infoNum
    obtain ⟨j0, hj, hy0, hy1, hy2⟩ := info_parts Try.infoBool
    clear hrot hval hlo hhi hM HROT
    go_wp2_with (go_at_call 18; refine (HNX.out _ G1.out).mono ?_; refine Hid.out ?_)
    refine Nu.hid ?_
    rintro e w2 ⟨hb, ⟨h, -⟩ | ⟨-, gn, rfl, hgn, hi2⟩⟩
    · exact absurd rfl h
    have hgn2 : w.heap.size < gn := by have := lt_of_block G1.out.box; omega
    have G2 := Nu.hid (G1.out.later hb)
    have HI2 := Nu.hid hi2
    clear hb hi2 hgn G1 x0 x1
    obtain ⟨x0, x1⟩ := G2.out.cells
    go_wp2_with (go_at_call 27; refine (HV.out _ G2.out.edges).mono ?_; rintro e w3 ⟨rfl, hb⟩; refine Hid.out ?_)
    refine Nu.hid ?_
    have G3 := Nu.hid (G2.out.later hb)
    have HI3 := Nu.hid (HI2.out.later hb)
    clear hb G2 HI2 x0 x1
    obtain ⟨x0, x1⟩ := G3.out.cells
    go_wp2_with (at_make; refine wpList_make_full _ rfl _ _ 22 rfl w3.heap.size 3 i0 (.int .i64 0) 1 Try.underlying22 hi hz0 hz1 _ _ _ _ m rfl rfl rfl rfl (by rw [hz2]; omega) (by unfold maxLen; omega) (Nat.le_refl _) ?_; refine Hid.out ?_)
    refine Nu.hid ?_
    intro w4 hrow hg4
    rw [made_zeros] at hrow
    have HI4 := Nu.hid (ints_of_row hrow)
    have hb4 : Below w3.heap.size w3 w4 := (Below.refl _ _).grown hg4 (Nat.le_refl _) (fun j hj => by cases hj)
    have G4 := Nu.hid (G3.out.later hb4)
    have HI3' := Nu.hid (HI3.out.later hb4)
    have HO3 := Nu.hid HI3.out.lt
    clear hrow hg4 hb4 x0 x1 G3 HI3
    go_wp2_with (at_make; refine wpList_make_full _ rfl _ _ 55 rfl w4.heap.size 4 j0 (.bool false) 1 Try.underlying55 hj hy0 hy1 _ _ _ _ M rfl rfl rfl rfl (by rw [hy2]; omega) (by unfold maxLen; omega) (Nat.le_refl _) ?_; refine Hid.out ?_)
    refine Nu.hid ?_
    intro w5 hrow hg5
    rw [made_falses] at hrow
    have hb5 : Below w4.heap.size w4 w5 := (Below.refl _ _).grown hg5 (Nat.le_refl _) (fun j hj => by cases hj)
    have hNS : NS w5 w (m : Int) ao ca es gn w3.heap.size w4.heap.size M (Ro.nextL es ls) (Ro.degT es m 0) (fun _ => false) := by
      have G5 := G4.out.later hb5
      refine ⟨G5.box, G5.low, HI3'.out.later hb5, ?_, bools_of_row hrow, hgn2, HO3.out, HI4.out.lt⟩
      rw [Ro.degT_zero]
      exact HI4.out.later hb5
    have HNS := Nu.hid hNS
    clear hrow hg5 hb5 hNS G4 HI4 HI3' HO3 hgn2
    obtain ⟨gd, hgd⟩ : ∃ gd, gd = w3.heap.size := ⟨_, rfl⟩
    obtain ⟨gm, hgm⟩ : ∃ gm, gm = w4.heap.size := ⟨_, rfl⟩
    rw [← hgd, ← hgm] at HNS ⊢
    clear hgd hgm HNX HV hi hz0 hz1 hz2 hj hy0 hy1 hy2
    go_wp2
    go_loopw [47] (fun c wr => ∃ (k : Nat) (f : Nat → Bool), k ≤ M ∧ c = .int .i64 (k : Int) ∧ (∀ j : Nat, f j = true → ∃ a, a < k ∧ (Ro.nextL es ls)[a]? = some (j : Int)) ∧ NS wr w (m : Int) ao ca es gn gd gm M (Ro.nextL es ls) (Ro.degT es m k) f) (fun c _ => M - (intOf c).toNat)
    case atStart => exact ⟨0, fun _ => false, Nat.zero_le _, rfl, (fun j h => by simp at h), HNS.out⟩
    case round =>
      obtain ⟨k, f, hk, rfl, hf, hns⟩ := hrel
      clear HNS
      have HFF := Nu.hid hf
      have HS := Nu.hid hns
      clear hf hns
      obtain ⟨W0, rfl⟩ : ∃ W0, W0 = wr := ⟨_, rfl⟩
      obtain ⟨x0, x1⟩ := HS.out.cells
      by_cases hlt : k < M
      · have hlti : (k : Int) < (M : Int) := by omega
        have hk0 : (0 : Int) ≤ (k : Int) := by omega
        have hfr : ∀ j, j < 2 * es.length → (Cs.fr es j : Int) < (m : Int) := fun j hj => by have := (Cs.half_lt HVAL.out hj).1; omega
        have hkm : k < 2 * es.length := by have := HM.out; omega
        obtain ⟨t, ht, htM, -⟩ := HRT.out.nextAt hkm (hfr k hkm)
        have hft : f t = false := by
          cases hft : f t with
          | false => rfl
          | true =>
            obtain ⟨a, ha, hat⟩ := HFF.out t hft
            have := HRT.out.inj hfr hat ht
            omega
        have htM2 : t < M := by have := HM.out; omega
        have HT := Nu.hid ht
        have hvm := hfr k hkm
        have HCALL := Nu.hid (HF.out W0 k (HE0.out.later HS.out.low) hlt)
        have hds : Ro.degT es m (k + 1) = _ := Ro.degT_succ
        have hda : (Ro.degT es m k)[Cs.fr es k]? = _ := Ro.degT_at (by omega)
        have hdb : (Cs.out es (Cs.fr es k) k).length ≤ k := Cs.out_len_le _
        generalize Cs.fr es k = v at HCALL hds hda hdb hvm
        generalize (Cs.out es v k).length = d at hds hda hdb
        have HDS := Nu.hid hds
        have HDA := Nu.hid hda
        have hv0 : (0 : Int) ≤ (v : Int) := by omega
        have ht0 : (0 : Int) ≤ (t : Int) := by omega
        have htM3 : (t : Int) < (M : Int) := by omega
        have hwd : IntKind.i64.wrap ((d : Int) + 1) = (d : Int) + 1 := by rw [IntKind.wrap_i64]; omega
        have hwk : IntKind.i64.wrap ((k : Int) + 1) = (k : Int) + 1 := by rw [IntKind.wrap_i64]; omega
        clear ht hfr hkm hds hda htM
        go_wp2_with (go_at_call 28; refine HCALL.out.mono ?_; rintro e w1 ⟨rfl, hb⟩; refine Hid.out ?_)
        refine Nu.hid ?_
        have HS1 := Nu.hid (HS.out.later hb)
        have HS2 := Nu.hid (HS1.out.setD v ((d : Int) + 1))
        rw [← HDS.out] at HS2
        have HS3 := Nu.hid (HS2.out.setM t)
        have c1 := HS1.out.dg.cell HDA.out
        have c2 := HS1.out.dg.free v
        have c3 := HS2.out.ix.cell HT.out
        have c4 := HS2.out.mt.cell htM2
        have c5 := HS2.out.mt.free t
        rw [hft] at c4
        clear hb HCALL x0 x1 hft
        go_wp2
        go_roundw
        case rel =>
          refine ⟨k + 1, Co.updB f t true, by omega, by go_num, fun j hj => ?_, HS3.out⟩
          by_cases e : j = t
          · rw [e]
            exact ⟨k, by omega, HT.out⟩
          · rw [Co.updB_other f e] at hj
            obtain ⟨a, ha, h⟩ := HFF.out j hj
            exact ⟨a, by omega, h⟩
        case measure => simp [intOf]; omega
      · have hlti : ¬ (k : Int) < (M : Int) := by omega
        obtain rfl : k = M := by omega
        clear HFF
        go_wp2
        clear x0 x1
        go_loopw [90] (fun c wr => ∃ (j : Nat), j ≤ k ∧ c = .int .i64 (j : Int) ∧ NS wr w (m : Int) ao ca es gn gd gm k (Ro.nextL es ls) (Ro.degT es m k) f) (fun c _ => k - (intOf c).toNat)
        case atStart => exact ⟨0, Nat.zero_le _, rfl, HS.out⟩
        case round =>
          obtain ⟨j, hj, rfl, hns⟩ := hrel
          clear HS
          have HS := Nu.hid hns
          clear hns
          obtain ⟨W1, rfl⟩ : ∃ W1, W1 = wr := ⟨_, rfl⟩
          obtain ⟨x0, x1⟩ := HS.out.cells
          by_cases hjl : j < k
          · have hjli : (j : Int) < (k : Int) := by omega
            have hj0 : (0 : Int) ≤ (j : Int) := by omega
            have hjm : j < 2 * es.length := by have := HM.out; omega
            have hvm : Cs.fr es j < m := (Cs.half_lt HVAL.out hjm).1
            obtain ⟨l, i, hl, hli, hld⟩ := HRT.out.place hjm (by omega)
            have hda : (Ro.degT es m k)[Cs.fr es j]? = some (l.length : Int) := by
              rw [Ro.degT_at hvm, hld, HM.out]
              rfl
            have hil := Ro.lt_at hli
            have hlb : l.length ≤ k := by rw [hld, HM.out]; exact Cs.out_len_le _
            obtain ⟨t0, t, ht0, ht1, -, -, htn⟩ := HRT.out.step (s := 0) hl hil
            have et : t0 = j := by
              rw [Nat.add_zero, Nat.mod_eq_of_lt hil, hli] at ht0
              have := Option.some.inj ht0
              omega
            subst et
            have HCALL := Nu.hid (HF.out W1 t0 (HE0.out.later HS.out.low) hjl)
            have HL := Nu.hid hl
            have HLI := Nu.hid hli
            have HDA := Nu.hid hda
            have HT1 := Nu.hid ht1
            have HTN := Nu.hid htn
            have HNO := Nu.hid (HRT.out.each _ _ hl).once
            have hwj : IntKind.i64.wrap ((t0 : Int) + 1) = (t0 : Int) + 1 := by rw [IntKind.wrap_i64]; omega
            generalize Cs.fr es t0 = v at *
            obtain ⟨d, hd⟩ : ∃ d, d = l.length := ⟨_, rfl⟩
            rw [← hd] at hil hlb HDA HT1
            have HD := Nu.hid hd
            have hv0 : (0 : Int) ≤ (v : Int) := by omega
            have hvm2 : (v : Int) < (m : Int) := by omega
            clear hl hli hld hda ht0 ht1 htn hd hjm
            go_wp2_with (go_at_call 28; refine HCALL.out.mono ?_; rintro e w1 ⟨rfl, hb⟩; refine Hid.out ?_)
            refine Nu.hid ?_
            have HS1 := Nu.hid (HS.out.later hb)
            have c1 := HS1.out.ix.cell HTN.out
            clear hb HCALL x0 x1 HS
            go_wp2
            clear c1
            go_loopw [12, 13] (fun c e wr => ∃ (s t : Nat), s < d ∧ c = .int .i64 (s : Int) ∧ e = .int .i64 (t : Int) ∧ l[(i + (s + 1)) % d]? = some (t : Int) ∧ NS wr w (m : Int) ao ca es gn gd gm k (Ro.nextL es ls) (Ro.degT es m k) f) (fun c _ _ => d - (intOf c).toNat)
            case atStart => exact ⟨0, t, by omega, rfl, rfl, HT1.out, HS1.out⟩
            case round =>
              obtain ⟨s, u, hs, rfl, rfl, hu, hns⟩ := hrel
              clear HS1 HTN HT1
              have HS := Nu.hid hns
              obtain ⟨W2, rfl⟩ : ∃ W2, W2 = wr := ⟨_, rfl⟩
              obtain ⟨x0, x1⟩ := HS.out.cells
              obtain ⟨u0, u1, hu0, hu1, hum, huf, hun⟩ := HRT.out.step (s := s + 1) HL.out (by rw [← HD.out]; exact hil)
              rw [← HD.out] at hu0 hu1
              have eu : u0 = u := by
                rw [hu] at hu0
                have := Option.some.inj hu0
                omega
              subst eu
              have huk : u0 < k := by have := HM.out; omega
              have HCALL := Nu.hid (HF.out W2 u0 (HE0.out.later HS.out.low) huk)
              rw [huf] at HCALL
              have hback : (u0 = t0 ↔ s + 1 = d) := by
                rw [← Ro.mod_back hil (Nat.succ_pos s) hs]
                constructor
                · rintro rfl
                  exact Ro.nodup_at HNO.out hu HLI.out
                · intro h
                  rw [h, HLI.out] at hu
                  have := Option.some.inj hu
                  omega
              have HU1 := Nu.hid hu1
              have HUN := Nu.hid hun
              have hws : IntKind.i64.wrap ((s : Int) + 1) = (s : Int) + 1 := by rw [IntKind.wrap_i64]; omega
              have hsd : ¬ (d : Int) < (s : Int) + 1 := by omega
              have hu00 : (0 : Int) ≤ (u0 : Int) := by omega
              have hukk : (u0 : Int) < (k : Int) := by omega
              clear hns hu hu0 hu1 hum huf hun
              by_cases hend : s + 1 = d
              · obtain rfl := hback.2 hend
                have hse : (s : Int) + 1 = (d : Int) := by omega
                have HSE := Nu.hid hse
                clear hback
                go_wp2_with (go_at_call 28; refine HCALL.out.mono ?_; rintro e w3 ⟨rfl, hb⟩; refine Hid.out ?_)
                refine Nu.hid ?_
                have HS3 := Nu.hid (HS.out.later hb)
                have c1 := HS3.out.dg.cell HDA.out
                have hdd : ¬ (d : Int) < (d : Int) := by omega
                clear hb HCALL x0 x1 HS hend
                go_wp2
                go_roundw
                case rel => exact ⟨u0 + 1, by omega, by go_num, HS3.out⟩
                case measure => simp [intOf]; omega
              · have hne : ((u0 : Int) == (t0 : Int)) = false := beq_false_of_ne (by intro h; exact hend (hback.1 (by omega)))
                have hne2 : ¬ (u0 : Int) = (t0 : Int) := by intro h; exact hend (hback.1 (by omega))
                clear hback
                go_wp2_with (go_at_call 28; refine HCALL.out.mono ?_; rintro e w3 ⟨rfl, hb⟩; refine Hid.out ?_)
                refine Nu.hid ?_
                have HS3 := Nu.hid (HS.out.later hb)
                have c1 := HS3.out.dg.cell HDA.out
                have c2 := HS3.out.ix.cell HUN.out
                clear hb HCALL x0 x1 HS
                go_wp2
                go_roundw
                case rel => exact ⟨s + 1, u1, by omega, by go_num, rfl, HU1.out, HS3.out⟩
                case measure => simp [intOf]; omega
          · have hjli : ¬ (j : Int) < (k : Int) := by omega
            go_wp2
            go_ret
            exact ⟨rfl, HS.out.low⟩
  · have j1 : (cc != 0) = true := by simp [hc]
    clear HROT
    go_wp2_with (go_at_call 18; refine (HNX.out _ G1.out).mono ?_; refine Hid.out ?_)
    refine Nu.hid ?_
    rintro e w2 ⟨hb, ⟨-, rfl⟩ | ⟨h, -⟩⟩
    case inr => exact absurd h hc
    have G2 := Nu.hid (G1.out.later hb).low
    clear hb G1 x0 x1
    go_wp2
    go_ret
    exact ⟨rfl, G2.out⟩

set_option maxRecDepth 100000 in
/-- What the walk gives, for every argument and every world. -/
theorem contract (H : Type) (enc : TypeId × Value → H) (W : World) (base : Nat) (args : Array Value) (ds gs : List (DataW H)) (before : List MemPlace)
    (hval : ∀ (j : Nat) t v, Try.f8.params[j]? = some t → args[j]? = some v → Value.okWide Try.prog W .any base t v)
    (hW : DataW.Whole enc Try.prog Try.f8.params.toList Rows.rotNextSpec.vars false W args.toList ds gs before)
    (hsz : (DataW.weightsEach Try.prog (Try.f8.params.toList ++ (OpenSpec.ofChange Rows.rotNextSpec).bare.plain.varTypes Try.prog) (ds ++ gs)).all (· ≤ reachBytes) = true)
    :
    Calls Try.prog 8 args W fun e W' => ∃ v, e = .returned v ∧ Rows.rotNextSpec.post enc Try.prog Try.f8 false true false false W args v W' := by
  have hW' := hW
  obtain ⟨p, q, hA0, hV, rfl, hfz, hnd⟩ := hW
  have hA : DataW.TrodAll enc Try.prog W 0 (fun _ => true) true Try.f8.params.toList args.toList ds p := hA0
  rw [Try.params8] at hA hval hsz
  obtain ⟨v0, vs0, d0, ds0, p0, q0, hargs, rfl, rfl, h0, r0⟩ := trodAll_cons hA
  obtain ⟨v1, vs1, d1, ds1, p1, q1, rfl, rfl, rfl, h1, r1⟩ := trodAll_cons r0
  obtain ⟨rfl, rfl, rfl⟩ := trodAll_nil r1
  obtain rfl : args = #[v0, v1] := by cases args; simp_all
  obtain ⟨rfl, rfl⟩ := trodVars_none hV
  have k0 := h0
  have lt0 : ∀ x ∈ p0, x.block < W.heap.size := by obtain ⟨m, hm⟩ := k0; exact DataW.trod_lt m _ _ _ hm
  obtain ⟨n0, a0, cap0, q0, rfl, x0, w0, u0⟩ := graph_of_trod (j := 0) (hval 0 30 v0 rfl rfl) h0 hsz rfl rfl
  obtain ⟨a1, len1, cap1, rfl⟩ := okWide_slice Try.underlying24 (hval 1 24 v1 rfl rfl)
  have k1 := h1
  have lt1 : ∀ x ∈ p1, x.block < W.heap.size := by obtain ⟨m, hm⟩ := k1; exact DataW.trod_lt m _ _ _ hm
  obtain ⟨q1, w1⟩ := rows_of_trod (j := 1) Try.underlying24 h1 hsz rfl rfl
  have l1 := w1.hlen
  subst l1
  clear hA0
  refine (walk n0 a0 cap0 q0 a1 cap1 q1 W x0 w0 u0 w1).mono fun e W' ⟨he, bel⟩ => ?_
  subst he
  exact ⟨_, rfl, _, _, _, [], _, [], hW', trodAll_mk1 (shut_bool Try.underlying4 _), (trodAll_cons_mk (Below.trod laidOut (by kernel_rfl) (of_decide_eq_true (by kernel_rfl)) k0 bel lt0) (trodAll_cons_mk (Below.trod laidOut (by kernel_rfl) (of_decide_eq_true (by kernel_rfl)) k1 bel lt1) trodAll_mk0)), rfl, bel.frame _, fun h => by cases h⟩

theorem laid_met (os : Os) : laidMet Try.prog Rows.rotNextRow.laid ((settled os).forCall (fun _ _ => 0) ⟨#[], #[.agg #[.int .i64 0, .slice none 0 0], .slice none 0 0], []⟩).memory :=
  laidMet_of_run' 100 (by kernel_rfl) (by kernel_rfl)
theorem reads (os : Os) {H : Type} (enc : TypeId × Value → H) : ∃ places, DataW.whole enc Try.prog ((settled os).forCall (fun _ _ => 0) ⟨#[], #[.agg #[.int .i64 0, .slice none 0 0], .slice none 0 0], []⟩).memory Try.f8.params.toList Rows.rotNextSpec.vars false (#[.agg #[.int .i64 0, .slice none 0 0], .slice none 0 0] : Array Value).toList 8 = some ([.agg [.lit (.int .i64 0), .nil], .nil], [], places) :=
  ⟨[], by kernel_rfl⟩

set_option maxRecDepth 100000 in
theorem lifted (os : Os) (started : os.Started) (H : Type) (enc : TypeId × Value → H) (F : Stop.Interp) :
    ReturnsInHanded {} Try.checked os 8 .any ((OpenSpec.ofChange Rows.rotNextSpec).preRow enc Try.prog Try.f8 Rows.rotNextRow.domain false Rows.rotNextRow.laid) (((OpenSpec.ofChange Rows.rotNextSpec).at F).post enc Try.prog Try.f8 false true false false) := by
  obtain ⟨places, hx⟩ := reads os enc
  refine returnsInHanded_of_row (C := Try.checked) (s := (OpenSpec.ofChange Rows.rotNextSpec)) own started (by kernel_rfl) Try.func8
    (witness_row_at (enc := enc) (C := Try.checked) false (settled os) #[.agg #[.int .i64 0, .slice none 0 0], .slice none 0 0] rfl (by kernel_rfl) (by kernel_rfl) (by kernel_rfl)
      (OpenSpec.preRow_of_cond 8 hx (by kernel_rfl) (fun k hk => by cases hk) (by kernel_rfl) (laid_met os))) ?_
  intro W base args ds gs before hval hW _ _ hsz _ _ _
  exact contract H enc W base args ds gs before hval hW hsz 

theorem said : Rows.RotNextSaid :=
  OpenClaim.holds_of_cond 8 Try.f8 rfl rfl rfl rfl rfl rfl rfl ⟨rfl, rfl, rfl, rfl, rfl⟩ rfl rfl rfl rfl rfl (by kernel_rfl) Try.func8 (by kernel_rfl)
    (of_decide_eq_true (by kernel_rfl)) (by unfold Func.isWrapper; first | (rw [if_pos (by decide +kernel)]; kernel_rfl) | (rw [if_neg (by decide +kernel)]; exact ⟨rfl, rfl⟩))
    (fun os started H enc _ F => by rw [OpenClaim.pre_eq_preRow]; exact lifted os started H enc F)

end lawRX

theorem rotNext_holds : Rows.RotNextSaid := lawRX.said

#print axioms rotNext_holds
end Go.Proofs.Ytloabkgojopeaaa
