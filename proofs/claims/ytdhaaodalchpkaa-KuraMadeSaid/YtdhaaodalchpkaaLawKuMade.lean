/-
  Proved: for every Boolean and all lists the law KuraMade answers true, and the lists read afterwards as before. No condition.
-/
import Derived.Test.YtdhaaodalchpkaaMgX
import Derived.Test.YtdhaaodalchpkaaKwE
namespace Go.Proofs.Ytdhaaodalchpkaa
open Go.ChangeShapes Go.WideShapes Go.ChangeAt Go.RowKit Go.Sort
namespace lawKM

theorem open_bool {H : Type} {enc : TypeId × Value → H} {P : Program} {w : World} {base : Nat} {spare : Nat → Bool} {held : Bool} {r : Reach} {b0 : Nat} {t : TypeId} {v : Value} {d : DataW H} {ps : List MemPlace} (ht : P.underlying t = some .bool) (hval : Value.okWide P w r b0 t v) (hd : DataW.Trod enc P w base spare held t v d ps) :
    ∃ b, v = .bool b ∧ d = .lit (.bool b) ∧ ps = [] := by
  obtain ⟨b, rfl⟩ := okWide_bool ht hval
  obtain ⟨fuel, hf⟩ := hd
  obtain ⟨b', h, hx⟩ := DataW.trod_bool ht hf
  simp [Value.cells] at h
  subst h
  injection hx with h1 h2
  exact ⟨b, rfl, h1, h2⟩
theorem out_small {kd q : Nat} (hk : (kd = 1 ∧ q = 5) ∨ (kd = 2 ∧ q = 6)) {u v : Nat} (hu : u ≤ q) (hv : v ≤ q) : (Ku.out kd q u ++ Ku.inn kd u v).length ≤ 60 := by
  rcases hk with ⟨rfl, rfl⟩ | ⟨rfl, rfl⟩
  · have : ∀ u, u < 6 → ∀ v, v < 6 → (Ku.out 1 5 u ++ Ku.inn 1 u v).length ≤ 60 := by decide
    exact this u (by omega) v (by omega)
  · have : ∀ u, u < 7 → ∀ v, v < 7 → (Ku.out 2 6 u ++ Ku.inn 2 u v).length ≤ 60 := by decide
    exact this u (by omega) v (by omega)
theorem base_div {kd q : Nat} (hk : (kd = 1 ∧ q = 5) ∨ (kd = 2 ∧ q = 6)) : ∃ P, Ku.Div q q (Ku.out kd q q) (Ku.out kd q q) P := by
  rcases hk with ⟨rfl, rfl⟩ | ⟨rfl, rfl⟩
  · exact ⟨_, Ku.Div.start5⟩
  · exact ⟨_, Ku.Div.start6⟩
theorem out_pos {kd q : Nat} (hk : (kd = 1 ∧ q = 5) ∨ (kd = 2 ∧ q = 6)) : 0 < (Ku.out kd q q).length := by
  rcases hk with ⟨rfl, rfl⟩ | ⟨rfl, rfl⟩ <;> decide

set_option maxRecDepth 100000 in
set_option maxHeartbeats 32000000 in
theorem walk (two : Bool) (dv : Option Addr) (dl dc : Nat) (z1 : List Int) (oo : Option Addr) (ol oc : Nat) (z2 : List Int) (w : World) (hr1 : IsRow .i64 8 w dv dl dc z1) (hr2 : IsRow .i64 8 w oo ol oc z2) :
    Calls Try.prog 7 #[.bool two, .slice dv dl dc, .slice oo ol oc] w fun e w' => e = .returned (.bool true) ∧ Below w.heap.size w w' := by
  obtain ⟨kd, q, hk⟩ : ∃ kd q, (kd = 1 ∧ q = 5 ∧ two = false) ∨ (kd = 2 ∧ q = 6 ∧ two = true) := by
    cases two
    · exact ⟨1, 5, .inl ⟨rfl, rfl, rfl⟩⟩
    · exact ⟨2, 6, .inr ⟨rfl, rfl, rfl⟩⟩
  have hk2 : (kd = 1 ∧ q = 5) ∨ (kd = 2 ∧ q = 6) := by rcases hk with h | h <;> omega
  have hqb : 5 ≤ q ∧ q ≤ 6 := by omega
  obtain ⟨P, hD⟩ := base_div hk2
  obtain ⟨L0, hL0⟩ : ∃ L0, (Ku.out kd q q).length = L0 := ⟨_, rfl⟩
  have hL0p := out_pos hk2
  rw [hL0] at hL0p
  have hkd : kd = 1 ∨ kd = 2 := by omega
  have HR1 := Nu.hid hr1
  have HR2 := Nu.hid hr2
  have HK := Nu.hid hk
  have HK2 := Nu.hid hk2
  have HD := Nu.hid hD
  have HL0 := Nu.hid hL0
  have HKD := Nu.hid hkd
  have HWK := Nu.hid (wakes15_any w)
  have HTW : Hid ((two = false ∧ (q : Int) = 5 ∧ kd = 1) ∨ (two = true ∧ (q : Int) = 6 ∧ kd = 2)) := by
    rcases hk with ⟨h1, h2, h3⟩ | ⟨h1, h2, h3⟩
    · exact .inl ⟨h3, by omega, h1⟩
    · exact .inr ⟨h3, by omega, h1⟩
  clear hr1 hr2 hk hk2 hD hL0 hkd
  go_enter Try.func7, Try.ntmps7
  go_wp2_with (go_at_call 8; refine HWK.out.mono ?_; rintro e w1 ⟨rfl, hb1⟩; refine Hid.out ?_)
  refine Nu.hid ?_
  have HB1 := Nu.hid hb1
  have hB : w.heap.size ≤ w1.heap.size := hb1.size
  clear hb1 HWK
  rcases HTW.out with ⟨rfl, hq, hkd⟩ | ⟨rfl, hq, hkd⟩
  all_goals
    have HQ := Nu.hid hq
    have HKD1 := Nu.hid hkd
    clear hq hkd
    go_upto_region 7 with fail
    have HQ2 := HQ.out
    rw [← HQ2]
    clear HQ2
    go_wp2_with fail
    go_loopw [7, 9, 10] (fun v7 v9 _ wr => ∃ u : Nat, u ≤ q ∧ v9 = .int .i64 (u : Int) ∧ OwnP wr w.heap.size v7 ((Ku.out kd q u).map zi) ∧ Below w.heap.size w wr) (fun _ v9 _ _ => q - (intOf v9).toNat)
    case atStart => exact ⟨0, Nat.zero_le _, rfl, OwnP.nil _ _, HB1.out⟩
    case round =>
      obtain ⟨u, huq, rfl, hrow, hb⟩ := hrel
      have HROW := Nu.hid hrow
      have HB := Nu.hid hb
      by_cases hlt : u < q
      · have hlti : (u : Int) < (q : Int) := by omega
        have hu0 : (0 : Int) ≤ (u : Int) := by omega
        have hwu : IntKind.i64.wrap ((u : Int) + 1) = (u : Int) + 1 := by rw [IntKind.wrap_i64]; omega
        clear hrow hb
        go_wp2_with fail
        go_loopw [7, 10] (fun v7 v10 wx => ∃ v : Nat, u + 1 ≤ v ∧ v ≤ q ∧ v10 = .int .i64 (v : Int) ∧ OwnP wx w.heap.size v7 ((Ku.out kd q u ++ Ku.inn kd u v).map zi) ∧ Below w.heap.size w wx) (fun _ v10 _ => q - (intOf v10).toNat)
        case atStart => exact ⟨u + 1, Nat.le_refl _, by omega, by go_num, by rw [Ku.inn_nil kd u (by omega), List.append_nil]; exact HROW.out, HB.out⟩
        case round =>
          obtain ⟨v, huv, hvq, rfl, hrow2, hb2⟩ := hrel
          have HROW2 := Nu.hid hrow2
          have HB2 := Nu.hid hb2
          by_cases hlt2 : v < q
          · have hlt2i : (v : Int) < (q : Int) := by omega
            have hv0 : (0 : Int) ≤ (v : Int) := by omega
            have hwv : IntKind.i64.wrap ((v : Int) + 1) = (v : Int) + 1 := by rw [IntKind.wrap_i64]; omega
            obtain ⟨l, hl⟩ : ∃ l, (Ku.out kd q u ++ Ku.inn kd u v).map zi = l := ⟨_, rfl⟩
            have hlb : l.length ≤ 8796093022000 := by
              rw [← hl, List.length_map]
              have := out_small HK2.out (show u ≤ q by omega) (show v ≤ q by omega)
              omega
            rw [hl] at hrow2
            have HROW3 := Nu.hid hrow2
            have HL := Nu.hid hl
            have hBr : w.heap.size ≤ wr.heap.size := HB2.out.size
            clear hrow2 hb2 hl
            by_cases hc : ¬ (kd = 2 ∧ (3 ≤ u ∨ v < 3))
            · have HC := Nu.hid hc
              have hcond : kd = 1 ∨ (u < 3 ∧ 3 ≤ v) := by have := HKD.out; omega
              clear hc
              rcases hcond with h1 | ⟨h3, h4⟩
              · have HX := Nu.hid h1
                clear h1
                first
                  | (exfalso; have h5 := HKD1.out; have h6 := HX.out; omega)
                  | (go_wp2_with (at_builtin; refine wpList_pushP rfl _ _ rfl _ w.heap.size _ l (u : Int) (v : Int) HROW3.out hBr hlb rfl rfl ?_; refine Hid.out ?_)
                     refine Nu.hid ?_
                     intro v' w2 ho2 hb2
                     have HO2 := Nu.hid (show OwnP w2 w.heap.size v' ((Ku.out kd q u ++ Ku.inn kd u (v + 1)).map zi) by rw [Ku.inn_yes (by omega) HC.out, ← List.append_assoc, List.map_append, HL.out]; exact ho2)
                     have HB3 := Nu.hid (HB2.out.trans hb2)
                     clear ho2 hb2
                     go_wp2
                     go_roundw
                     case rel => exact ⟨v + 1, by omega, by omega, by go_num, HO2.out, HB3.out⟩
                     case measure => simp [intOf]; omega)
              · have h3i : (u : Int) < 3 := by omega
                have h4i : (v : Int) ≥ 3 := by omega
                have h4j : (3 : Int) ≤ (v : Int) := by omega
                go_wp2_with (at_builtin; refine wpList_pushP rfl _ _ rfl _ w.heap.size _ l (u : Int) (v : Int) HROW3.out hBr hlb rfl rfl ?_; refine Hid.out ?_)
                refine Nu.hid ?_
                intro v' w2 ho2 hb2
                have HO2 := Nu.hid (show OwnP w2 w.heap.size v' ((Ku.out kd q u ++ Ku.inn kd u (v + 1)).map zi) by rw [Ku.inn_yes (by omega) HC.out, ← List.append_assoc, List.map_append, HL.out]; exact ho2)
                have HB3 := Nu.hid (HB2.out.trans hb2)
                clear ho2 hb2
                go_wp2
                go_roundw
                case rel => exact ⟨v + 1, by omega, by omega, by go_num, HO2.out, HB3.out⟩
                case measure => simp [intOf]; omega
            · have hc' := Classical.not_not.1 hc
              have HC := Nu.hid hc'
              clear hc
              rcases hc' with ⟨h1, h2⟩
              have HX := Nu.hid h1
              clear h1
              by_cases h3 : u < 3
              · have h3i : (u : Int) < 3 := by omega
                have h4i : ¬ (v : Int) ≥ 3 := by omega
                have h4j : ¬ (3 : Int) ≤ (v : Int) := by omega
                clear h2
                first
                  | (exfalso; have h5 := HKD1.out; have h6 := HX.out; omega)
                  | (go_wp2_with fail
                     go_roundw
                     case rel => exact ⟨v + 1, by omega, by omega, by go_num, by rw [Ku.inn_no HC.out]; exact HROW2.out, HB2.out⟩
                     case measure => simp [intOf]; omega)
              · have h3i : ¬ (u : Int) < 3 := by omega
                clear h2
                first
                  | (exfalso; have h5 := HKD1.out; have h6 := HX.out; omega)
                  | (go_wp2_with fail
                     go_roundw
                     case rel => exact ⟨v + 1, by omega, by omega, by go_num, by rw [Ku.inn_no HC.out]; exact HROW2.out, HB2.out⟩
                     case measure => simp [intOf]; omega)
          · have hd : ¬ (v : Int) < (q : Int) := by omega
            have hvq' : v = q := by omega
            rw [hvq'] at hrow2
            have HROW4 := Nu.hid (show OwnP _ _ _ ((Ku.out kd q (u + 1)).map zi) from hrow2)
            have HB4 := Nu.hid hb2
            clear hrow2 hvq' hb2
            go_wp2_with fail
            go_roundw
            case rel => exact ⟨u + 1, by omega, by go_num, HROW4.out, HB4.out⟩
            case measure => simp [intOf]; omega
      · have hd : ¬ (u : Int) < (q : Int) := by omega
        have huq' : u = q := by omega
        rw [huq'] at hrow
        obtain ⟨g, c, rfl, hg⟩ := ownP_shape hrow (M := L0) (by rw [List.length_map]; exact HL0.out) hL0p
        have HROW5 := Nu.hid hrow
        clear hrow huq'
        repeat (first | exact made_rest (by have h1 := HKD1.out; have h2 := HQ.out; first | exact .inl ⟨h1, by omega, rfl⟩ | exact .inr ⟨h1, by omega, rfl⟩) HD.out HL0.out HROW5.out (Nat.le_refl _) HR1.out HR2.out HB.out HL0.out | go_step)
set_option maxRecDepth 100000 in
/-- What the walk gives, for every argument and every world. -/
theorem contract (H : Type) (enc : TypeId × Value → H) (W : World) (base : Nat) (args : Array Value) (ds gs : List (DataW H)) (before : List MemPlace)
    (hval : ∀ (j : Nat) t v, Try.f7.params[j]? = some t → args[j]? = some v → Value.okWide Try.prog W .any base t v)
    (hW : DataW.Whole enc Try.prog Try.f7.params.toList Rows.kuraMadeSpec.vars false W args.toList ds gs before)
    (hsz : (DataW.weightsEach Try.prog (Try.f7.params.toList ++ (OpenSpec.ofChange Rows.kuraMadeSpec).bare.plain.varTypes Try.prog) (ds ++ gs)).all (· ≤ reachBytes) = true)
    :
    Calls Try.prog 7 args W fun e W' => ∃ v, e = .returned v ∧ Rows.kuraMadeSpec.post enc Try.prog Try.f7 false true false false W args v W' := by
  have hW' := hW
  obtain ⟨p, q, hA0, hV, rfl, hfz, hnd⟩ := hW
  have hA : DataW.TrodAll enc Try.prog W 0 (fun _ => true) true Try.f7.params.toList args.toList ds p := hA0
  rw [Try.params7] at hA hval hsz
  obtain ⟨v0, vs0, d0, ds0, p0, q0, hargs, rfl, rfl, h0, r0⟩ := trodAll_cons hA
  obtain ⟨v1, vs1, d1, ds1, p1, q1, rfl, rfl, rfl, h1, r1⟩ := trodAll_cons r0
  obtain ⟨v2, vs2, d2, ds2, p2, q2, rfl, rfl, rfl, h2, r2⟩ := trodAll_cons r1
  obtain ⟨rfl, rfl, rfl⟩ := trodAll_nil r2
  obtain rfl : args = #[v0, v1, v2] := by cases args; simp_all
  obtain ⟨rfl, rfl⟩ := trodVars_none hV
  obtain ⟨a0, rfl, rfl, rfl⟩ := open_bool Try.underlying4 (hval 0 4 v0 rfl rfl) h0
  obtain ⟨a1, len1, cap1, rfl⟩ := okWide_slice Try.underlying36 (hval 1 36 v1 rfl rfl)
  have k1 := h1
  have lt1 : ∀ x ∈ p1, x.block < W.heap.size := by obtain ⟨m, hm⟩ := k1; exact DataW.trod_lt m _ _ _ hm
  obtain ⟨z1, w1⟩ := IsRow.of_trod (j := 1) Try.underlying36 Try.underlying3 cellsInt bytesInt h1 hsz rfl rfl
  obtain ⟨a2, len2, cap2, rfl⟩ := okWide_slice Try.underlying36 (hval 2 36 v2 rfl rfl)
  have k2 := h2
  have lt2 : ∀ x ∈ p2, x.block < W.heap.size := by obtain ⟨m, hm⟩ := k2; exact DataW.trod_lt m _ _ _ hm
  obtain ⟨z2, w2⟩ := IsRow.of_trod (j := 2) Try.underlying36 Try.underlying3 cellsInt bytesInt h2 hsz rfl rfl
  clear hA0
  refine (walk a0 a1 len1 cap1 z1 a2 len2 cap2 z2 W w1 w2).mono fun e W' ⟨he, bel⟩ => ?_
  subst he
  exact ⟨_, rfl, _, _, _, [], _, [], hW', trodAll_mk1 (shut_bool Try.underlying4 _), (trodAll_cons_mk (shut_bool Try.underlying4 _) (trodAll_cons_mk (Below.trod laidOut (by kernel_rfl) (of_decide_eq_true (by kernel_rfl)) k1 bel lt1) (trodAll_cons_mk (Below.trod laidOut (by kernel_rfl) (of_decide_eq_true (by kernel_rfl)) k2 bel lt2) trodAll_mk0))), rfl, bel.frame _, fun h => by cases h⟩

theorem laid_met (os : Os) : laidMet Try.prog Rows.kuraMadeRow.laid ((settled os).forCall (fun _ _ => 0) ⟨#[], #[.bool false, .slice none 0 0, .slice none 0 0], []⟩).memory :=
  laidMet_of_run' 100 (by kernel_rfl) (by kernel_rfl)
theorem reads (os : Os) {H : Type} (enc : TypeId × Value → H) : ∃ places, DataW.whole enc Try.prog ((settled os).forCall (fun _ _ => 0) ⟨#[], #[.bool false, .slice none 0 0, .slice none 0 0], []⟩).memory Try.f7.params.toList Rows.kuraMadeSpec.vars false (#[.bool false, .slice none 0 0, .slice none 0 0] : Array Value).toList 8 = some ([.lit (.bool false), .nil, .nil], [], places) :=
  ⟨[], by kernel_rfl⟩

set_option maxRecDepth 100000 in
theorem lifted (os : Os) (started : os.Started) (H : Type) (enc : TypeId × Value → H) (F : Stop.Interp) :
    ReturnsInHanded {} Try.checked os 7 .any ((OpenSpec.ofChange Rows.kuraMadeSpec).preRow enc Try.prog Try.f7 Rows.kuraMadeRow.domain false Rows.kuraMadeRow.laid) (((OpenSpec.ofChange Rows.kuraMadeSpec).at F).post enc Try.prog Try.f7 false true false false) := by
  obtain ⟨places, hx⟩ := reads os enc
  refine returnsInHanded_of_row (C := Try.checked) (s := (OpenSpec.ofChange Rows.kuraMadeSpec)) own started (by kernel_rfl) Try.func7
    (witness_row_at (enc := enc) (C := Try.checked) false (settled os) #[.bool false, .slice none 0 0, .slice none 0 0] rfl (by kernel_rfl) (by kernel_rfl) (by kernel_rfl)
      (OpenSpec.preRow_of_cond 8 hx (by kernel_rfl) (fun k hk => by cases hk) (by kernel_rfl) (laid_met os))) ?_
  intro W base args ds gs before hval hW _ _ hsz _ _ _
  exact contract H enc W base args ds gs before hval hW hsz 

theorem said : Rows.KuraMadeSaid :=
  OpenClaim.holds_of_cond 7 Try.f7 rfl rfl rfl rfl rfl rfl rfl ⟨rfl, rfl, rfl, rfl, rfl⟩ rfl rfl rfl rfl rfl (by kernel_rfl) Try.func7 (by kernel_rfl)
    (of_decide_eq_true (by kernel_rfl)) (by unfold Func.isWrapper; first | (rw [if_pos (by decide +kernel)]; kernel_rfl) | (rw [if_neg (by decide +kernel)]; exact ⟨rfl, rfl⟩))
    (fun os started H enc _ F => by rw [OpenClaim.pre_eq_preRow]; exact lifted os started H enc F)

end lawKM

theorem kuraMade_holds : Rows.KuraMadeSaid := lawKM.said

#print axioms kuraMade_holds
end Go.Proofs.Ytdhaaodalchpkaa
