import Derived.Test.YtmgoahbloppdmaaGreatMg23
import Derived.Shelf.Abstract
import Derived.Lib.SliceRun
import Derived.Test.YtmgoahbloppdmaaGreatMg09
import Derived.Test.YtmgoahbloppdmaaGreatMg08
import Derived.Test.YtmgoahbloppdmaaGreatMg11
/-
  keysOf, at ints: by place the item's key.
-/
namespace Go.Proofs.YtmgoahbloppdmaaGreat
open Go.RowKit

theorem run_equalIn_func_nil {P : Program} (w : World) (d : Nat) (t : TypeId) (kf : Nat) (bs : Array Value) {ps rs : Array TypeId} {vd : Bool} (h : P.underlying t = some (.func ps rs vd)) :
    (Op.equalIn (d + 1) t (.func (.func kf) #[] bs) .nilFunc).run P w = .ok false w := by
  simp [Op.equalIn, run_underlying h]

/-- A function is not nil. -/
theorem run_eql_func_nil {P : Program} (w : World) (t : TypeId) (kf : Nat) (bs : Array Value) {ps rs : Array TypeId} {vd : Bool} (h : P.underlying t = some (.func ps rs vd)) : (binOp .eql t (.func (.func kf) #[] bs) .nilFunc).run P w = .ok (.bool false) w := by
  simp only [binOp]
  simp [Op.equal, Op.maxDepth, run_equalIn_func_nil w 9999 t kf bs h]

def KeysPost (most : Int) (ks : List Int) (w : World) (e : Ending) (w' : World) : Prop :=
  ((Bu.fault most ks ≠ 0 ∧ e = .returned (.tuple #[.slice none 0 0, .int .i64 (Bu.fault most ks)])) ∨
   (Bu.fault most ks = 0 ∧ ∃ g : Nat, e = .returned (.tuple #[.slice (some ⟨g, 0, none⟩) ks.length ks.length, .int .i64 0]) ∧ w.heap.size ≤ g ∧ IntsBlk w' g ks)) ∧ Below w.heap.size w w'

set_option maxRecDepth 100000 in
set_option maxHeartbeats 8000000 in
theorem keysint_any (kf : Nat) (bs : Array Value) (key : Int → Int) (most : Int) (ao : Option Addr) (ca n : Nat) (xs ks : List Int) (w : World) (hn : xs.length = n) (hl : n ≤ 17592186043904) (ha : IntsAt w ao xs) (hks : ks = xs.map key)
    (hent : ∀ (args : Array Value) (w : World), (callFunc kf args).run Tryz.prog w = .ok (.enter kf args) w) (hcall : ∀ W x, Below w.heap.size w W → x ∈ xs → Calls Tryz.prog kf (#[.int .i64 x] ++ bs) W fun e w' => e = .returned (.int .i64 (key x)) ∧ Below W.heap.size W w') :
    Calls Tryz.prog 62 #[.slice ao n ca, .func (.func kf) #[] bs, .int .i64 most] w (KeysPost most ks w) := by
  obtain ⟨i0, hi, hz0, hz1, hz2⟩ := info_parts Tryz.infoNum
  have HA := Nu.hid ha
  have HN := Nu.hid hn
  have HCALL := Nu.hid hcall
  have HKS := Nu.hid hks
  have hnil := fun w => run_eql_func_nil (P := Tryz.prog) w 76 kf bs Tryz.underlying76
  have HLEN : Hid (ks.length = n) := by show _ = _; rw [hks, List.length_map, hn]
  clear ha hn hcall hks
  by_cases h1 : most < 0
  · have HF : Hid (Bu.fault most ks = 2) := Bu.fault_two (.inl h1)
    go_enter Tryz.func62, Tryz.ntmps62
    go_wp2
    go_ret2
    exact ⟨.inl ⟨by rw [HF.out]; decide, by rw [HF.out]; rfl⟩, Below.refl _ _⟩
  by_cases h2 : 4194304 < most
  · have HF : Hid (Bu.fault most ks = 2) := Bu.fault_two (.inr h2)
    go_enter Tryz.func62, Tryz.ntmps62
    go_wp2
    go_ret2
    exact ⟨.inl ⟨by rw [HF.out]; decide, by rw [HF.out]; rfl⟩, Below.refl _ _⟩
  have HR12 : Hid (¬ (most < 0 ∨ 4194304 < most)) := by show ¬ _; omega
  go_enter Tryz.func62, Tryz.ntmps62
  go_wp2_with (at_make; refine wpList_make_full _ rfl _ _ 25 rfl w.heap.size 3 i0 (.int .i64 0) 1 Tryz.underlying25 hi hz0 hz1 _ _ _ _ n rfl rfl rfl rfl (by rw [hz2]; omega) (by unfold maxLen; omega) (Nat.le_refl _) ?_; refine Hid.out ?_)
  refine Nu.hid ?_
  intro w2 hrow hg2
  rw [made_zeros] at hrow
  have HI2 := Nu.hid (ints_of_row hrow)
  have HB2 : Hid (Below w.heap.size w w2) := (Below.refl _ _).grown hg2 (Nat.le_refl _) (fun j hj => by cases hj)
  clear hrow hg2
  go_wp2
  go_loopw [27] (fun c wr => ∃ (i : Nat) (R : List Int), i ≤ n ∧ c = .int .i64 i ∧ R.length = n ∧ (∀ j, j < i → R[j]? = ks[j]?) ∧ (ks.take i).any (Bu.bad most) = false ∧ IntsBlk wr w.heap.size R ∧ Below w.heap.size w wr) (fun c _ => n - (intOf c).toNat)
  case atStart => exact ⟨0, _, Nat.zero_le _, rfl, by simp, fun j hj => by omega, by simp, HI2.out, HB2.out⟩
  case round =>
    obtain ⟨i, R, hin, rfl, hRl, hR, hany, hiR, hb⟩ := hrel
    have HR := Nu.hid hR
    have HIR := Nu.hid hiR
    have HB := Nu.hid hb
    have HANY := Nu.hid hany
    by_cases hlt : i < n
    · have hk0 : (0 : Int) ≤ (i : Int) := by omega
      have hk1 : (i : Int) < (n : Int) := by omega
      obtain ⟨x, hx⟩ : ∃ x, xs[i]? = some x := ⟨_, List.getElem?_eq_getElem (by have := HN.out; omega)⟩
      have hkx : ks[i]? = some (key x) := by rw [HKS.out, List.getElem?_map, hx]; rfl
      obtain ⟨b, o, rfl, c0⟩ := (HA.out.later HB.out) i _ hx
      have HC := Nu.hid (HCALL.out wr x hb (List.mem_of_getElem? hx))
      obtain ⟨y, hy⟩ : ∃ y, R[i]? = some y := ⟨_, List.getElem?_eq_getElem (by omega)⟩
      generalize key x = z at hkx HC
      have HKX := Nu.hid hkx
      have HY := Nu.hid hy
      clear hR hiR hb hany hx hkx hy
      go_wp2_with (go_at_fn kf; refine HC.out.mono ?_; rintro e w3 ⟨rfl, hb3⟩; refine Hid.out ?_)
      refine Nu.hid ?_
      have HB3 := Nu.hid (HB.out.trans (hb3.mono HB.out.size))
      have hiR3 := HIR.out.later hb3
      clear hb3
      by_cases q1 : z < 0
      · have HF : Hid (Bu.fault most ks = 60) := Bu.fault_key HR12.out (Bu.any_of HKX.out (Bu.bad_yes (.inl q1)))
        clear hiR3
        go_wp2
        go_ret2
        exact ⟨.inl ⟨by rw [HF.out]; decide, by rw [HF.out]; rfl⟩, HB3.out⟩
      by_cases q2 : most < z
      · have HF : Hid (Bu.fault most ks = 60) := Bu.fault_key HR12.out (Bu.any_of HKX.out (Bu.bad_yes (.inr q2)))
        clear hiR3
        go_wp2
        go_ret2
        exact ⟨.inl ⟨by rw [HF.out]; decide, by rw [HF.out]; rfl⟩, HB3.out⟩
      have c2 := hiR3.cell HY.out
      have f2 := hiR3.free i
      have HNEXT := Nu.hid (Bu.any_take_succ HKX.out HANY.out (Bu.bad_no (by omega)))
      have HR3 := Nu.hid (hiR3.set i z)
      have HB4 := Nu.hid (HB3.out.setCell (p := ⟨w.heap.size, i, none⟩) (Nat.le_refl _) (.int .i64 z))
      have HR2 := Nu.hid (take_set_succ (by rw [hRl, HLEN.out]) HR.out HKX.out)
      have HRL : Hid ((R.set i z).length = n) := by show _ = _; simp [hRl]
      clear hiR3
      go_wp2
      go_roundw
      case rel => exact ⟨i + 1, _, by omega, by go_num, HRL.out, HR2.out, HNEXT.out, HR3.out, HB4.out⟩
      case measure => simp [intOf]; omega
    · have hd : ¬ ((i : Int) < (n : Int)) := by omega
      obtain rfl : i = n := by omega
      clear hR hiR hb hany
      go_wp2
      go_ret2
      have hks : ks.take i = ks := List.take_of_length_le (by have := HLEN.out; omega)
      have e : R = ks := List.ext_getElem? fun j => by
        by_cases hj : j < i
        · exact HR.out j hj
        · rw [List.getElem?_eq_none (by omega), List.getElem?_eq_none (by have := HLEN.out; omega)]
      have hany := HANY.out
      rw [hks] at hany
      refine ⟨.inr ⟨Bu.fault_none HR12.out hany, w.heap.size, ?_, Nat.le_refl _, ?_⟩, HB.out⟩
      · rw [HLEN.out]; rfl
      · rw [← e]; exact HIR.out

end Go.Proofs.YtmgoahbloppdmaaGreat

/-
  What faults are.
-/
namespace Go.Proofs.YtmgoahbloppdmaaGreat
open Go.RowKit

theorem fault_few {most : Int} {ks : List Int} (h : Bu.fault most ks = 0) : 0 ≤ most ∧ most ≤ 4194304 ∧ Bu.In most ks ∧ Bu.In 4194304 ks := by
  rcases Bu.fault_cases most ks with ⟨_, h1⟩ | ⟨_, _, h1⟩ | ⟨h1, h2, _⟩
  · omega
  · omega
  · have h3 := Bu.any_in h2
    exact ⟨by omega, by omega, h3, fun z hz => by have := h3 z hz; omega⟩

theorem fault_what {most : Int} {ks : List Int} (h : Bu.fault most ks ≠ 0) : Bu.fault most ks = 2 ∨ Bu.fault most ks = 60 := by
  rcases Bu.fault_cases most ks with ⟨_, h1⟩ | ⟨_, _, h1⟩ | ⟨_, _, h1⟩
  · exact .inl h1
  · exact .inr h1
  · exact absurd h1 h

end Go.Proofs.YtmgoahbloppdmaaGreat

/-
  Clone, Sort at ints.
-/
namespace Go.Proofs.YtmgoahbloppdmaaGreat
open Go.RowKit

set_option maxRecDepth 100000 in
set_option maxHeartbeats 4000000 in
theorem bclone_any (ao : Option Addr) (n ca : Nat) (l : List Int) (w : World) (h : Lst w ao n ca l) (hn : n ≤ 17592186043904) :
    Calls Tryz.prog 61 #[.slice ao n ca] w fun e w' => ∃ bo cb, e = .returned (.slice bo n cb) ∧ Lst w' bo n cb l ∧ Below w.heap.size w w' := by
  have HR := Nu.hid h
  have hnil := fun w => Lib.run_eql_slice_nil (P := Tryz.prog) w 25 3 ao n ca 0 0 Tryz.underlying25
  rcases ao with _ | y
  · obtain ⟨rfl, rfl⟩ := h.none rfl
    clear h
    go_enter Tryz.func61, Tryz.ntmps61
    go_wp2
    go_ret
    exact ⟨none, 0, rfl, HR.out, Below.refl _ _⟩
  · clear h
    go_enter Tryz.func61, Tryz.ntmps61
    go_wp2_with (at_builtin; refine wpList_copy_lst rfl _ _ rfl w (some y) n ca l rfl rfl HR.out hn ?_; refine Hid.out ?_)
    refine Nu.hid ?_
    intro gb c w1 hrow hgb hlt hc hb
    have HX := Nu.hid hrow
    have HB := Nu.hid hb
    clear hrow hb hgb
    go_wp2
    go_ret
    refine ⟨some ⟨gb, 0, none⟩, c, rfl, ?_, HB.out⟩
    have hi := ints_in_row HX.out
    exact ⟨HR.out.len, fun j x hj => ⟨gb, 0, rfl, by rw [Nat.zero_add]; exact hi.cell hj⟩, fun e => by cases e⟩

def SortPost (most : Int) (ks xs : List Int) (w : World) (e : Ending) (w' : World) : Prop :=
  ((Bu.fault most ks ≠ 0 ∧ e = .returned (.tuple #[.slice none 0 0, .int .i64 (Bu.fault most ks)])) ∨
   (Bu.fault most ks = 0 ∧ ∃ (g : Nat) (S : List Int), e = .returned (.tuple #[.slice (some ⟨g, 0, none⟩) xs.length xs.length, .int .i64 0]) ∧ w.heap.size ≤ g ∧ IntsBlk w' g S ∧ Bu.Sorted ks xs S)) ∧ Below w.heap.size w w'

set_option maxRecDepth 100000 in
set_option maxHeartbeats 8000000 in
theorem sortint_any (kf : Nat) (bs : Array Value) (key : Int → Int) (most : Int) (ao : Option Addr) (ca n : Nat) (xs ks : List Int) (w : World) (hl : n ≤ 17592186043904) (ha : Lst w ao n ca xs) (hks : ks = xs.map key)
    (hent : ∀ (args : Array Value) (w : World), (callFunc kf args).run Tryz.prog w = .ok (.enter kf args) w) (hcall : ∀ W x, Below w.heap.size w W → x ∈ xs → Calls Tryz.prog kf (#[.int .i64 x] ++ bs) W fun e w' => e = .returned (.int .i64 (key x)) ∧ Below W.heap.size W w') :
    Calls Tryz.prog 39 #[.slice ao n ca, .func (.func kf) #[] bs, .int .i64 most] w (SortPost most ks xs w) := by
  obtain ⟨i0, hi, hz0, hz1, hz2⟩ := info_parts Tryz.infoNum
  have HN := Nu.hid ha.len
  have HLEN : Hid (ks.length = n) := by show _ = _; rw [hks, List.length_map, ha.len]
  have HCL := Nu.hid (bclone_any ao n ca xs w ha hl)
  have HK : Hid (∀ W bo cb, Lst W bo n cb xs → Below w.heap.size w W → Calls Tryz.prog 62 #[.slice bo n cb, .func (.func kf) #[] bs, .int .i64 most] W (KeysPost most ks W)) := fun W bo cb h hb =>
    keysint_any kf bs key most bo cb n xs ks W h.len hl h.ints hks hent (fun W2 x hb2 hx => hcall W2 x (hb.trans (hb2.mono hb.size)) hx)
  clear ha hcall hent hks
  go_enter Tryz.func39, Tryz.ntmps39
  go_wp2_with (go_at_call 61; refine HCL.out.mono ?_; rintro e w1 ⟨bo, cb, rfl, hst, hb1⟩; have HST := Nu.hid hst; have HB1 := Nu.hid hb1; clear hst hb1; refine Hid.out ?_)
  refine Nu.hid ?_
  have HK1 := Nu.hid (HK.out w1 bo cb HST.out HB1.out)
  clear HK HCL
  by_cases hf : Bu.fault most ks = 0
  · have HF := Nu.hid hf
    have hfew := (fault_few hf).2.2.2
    have HFEW := Nu.hid hfew
    have HK2 : Hid (Calls Tryz.prog 62 #[.slice bo n cb, .func (.func kf) #[] bs, .int .i64 most] w1 fun e w' => ∃ g : Nat, e = .returned (.tuple #[.slice (some ⟨g, 0, none⟩) n n, .int .i64 0]) ∧ w1.heap.size ≤ g ∧ IntsBlk w' g ks ∧ Below w1.heap.size w1 w') := HK1.out.mono (by
      rintro e w' ⟨⟨h1, _⟩ | ⟨_, g, h2, h3, h4⟩, hb⟩
      · exact absurd HF.out h1
      · rw [HLEN.out] at h2
        exact ⟨g, h2, h3, h4, hb⟩)
    clear HK1 hf hfew
    go_wp2_with (go_at_call 62; refine HK2.out.mono ?_; rintro e w2 ⟨g, rfl, hg, hkb, hb2⟩; have HKB := Nu.hid hkb; have HB2 := Nu.hid (HB1.out.trans (hb2.mono HB1.out.size)); have HST2 := Nu.hid (HST.out.later hb2); clear hkb hb2 hg; refine Hid.out ?_)
    refine Nu.hid ?_
    clear HK2 HST HB1
    go_wp2_with (at_make; refine wpList_make_full _ rfl _ _ 25 rfl w2.heap.size 3 i0 (.int .i64 0) 1 Tryz.underlying25 hi hz0 hz1 _ _ _ _ n rfl rfl rfl rfl (by rw [hz2]; omega) (by unfold maxLen; omega) (Nat.le_refl _) ?_; refine Hid.out ?_)
    refine Nu.hid ?_
    intro w3 hrow hg3
    rw [made_zeros] at hrow
    have hb3 : Below w2.heap.size w2 w3 := (Below.refl _ _).grown hg3 (Nat.le_refl _) (fun j hj => by cases hj)
    have HI3 := Nu.hid (ints_of_row hrow)
    have HST3 := Nu.hid (HST2.out.later hb3)
    have HKB3 := Nu.hid (HKB.out.later hb3)
    have HB3 := Nu.hid (HB2.out.trans (hb3.mono HB2.out.size))
    have hsG := HB2.out.size
    have hstG : ∀ x, bo = some x → 0 < n → x.block < w2.heap.size := fun x hx h0 => by
      obtain ⟨z, hz⟩ : ∃ z, xs[0]? = some z := ⟨_, List.getElem?_eq_getElem (by have := HN.out; omega)⟩
      obtain ⟨b, o, e, hc⟩ := HST2.out.ints 0 z hz
      rw [hx] at e
      cases e
      exact block_lt_of_cell hc
    have HSTG := Nu.hid hstG
    obtain ⟨G, hG⟩ : ∃ G, G = w2.heap.size := ⟨_, rfl⟩
    rw [← hG] at HI3 HSTG hsG ⊢
    have HRK := Nu.hid (ranks_any (some ⟨g, 0, none⟩) n n ks w3 HLEN.out hl HKB3.out.at HFEW.out)
    clear hrow hg3 hb3 HST2 HKB HB2 hG hstG
    go_wp2_with (go_at_call 63; refine HRK.out.mono ?_; rintro e w4 ⟨gr, rfl, hgr, hrb, hb4⟩; rw [HLEN.out]; have HRB := Nu.hid hrb; have HST4 := Nu.hid (HST3.out.later hb4); have HI4 := Nu.hid (HI3.out.later hb4); have hgr2 := Nat.lt_of_lt_of_le HI3.out.lt hgr; have HB4 := Nu.hid (HB3.out.trans (hb4.mono HB3.out.size)); clear hrb hb4 hgr; refine Hid.out ?_)
    refine Nu.hid ?_
    clear HRK HST3 HI3 HB3 HKB3
    go_wp2
    go_loopw [32] (fun c wr => ∃ (i : Nat) (S : List Int), i ≤ n ∧ c = .int .i64 i ∧ Bu.Laid ks xs S i ∧ Lst wr bo n cb xs ∧ IntsBlk wr gr (Bu.ranks ks) ∧ IntsBlk wr G S ∧ Below w.heap.size w wr) (fun c _ => n - (intOf c).toNat)
    case atStart => exact ⟨0, _, Nat.zero_le _, rfl, ⟨by rw [HLEN.out]; simp, fun i hi => by omega⟩, HST4.out, HRB.out, HI4.out, HB4.out⟩
    case round =>
      obtain ⟨i, S, hin, rfl, hS, hst, hrb, hiS, hb⟩ := hrel
      have HS := Nu.hid hS
      have HIS := Nu.hid hiS
      have HB := Nu.hid hb
      by_cases hlt : i < n
      · have hk0 : (0 : Int) ≤ (i : Int) := by omega
        have hk1 : (i : Int) < (n : Int) := by omega
        have hra := Bu.ranks_at (ks := ks) (i := i) (by rw [HLEN.out]; exact hlt)
        have hrl := Bu.rk_lt (ks := ks) (i := i) (by rw [HLEN.out]; exact hlt)
        rw [HLEN.out] at hrl
        obtain ⟨x, hx⟩ : ∃ x, xs[i]? = some x := ⟨_, List.getElem?_eq_getElem (by have := HN.out; omega)⟩
        have HSTEP := Nu.hid (hS.step (by rw [HLEN.out]; exact hlt) hx)
        obtain ⟨q, hq⟩ : ∃ q, Bu.rk ks i = q := ⟨_, rfl⟩
        rw [hq] at hra hrl HSTEP
        obtain ⟨y, hy⟩ : ∃ y, S[q]? = some y := ⟨_, List.getElem?_eq_getElem (by rw [hS.len, HLEN.out]; exact hrl)⟩
        obtain ⟨b, o, hbo, c0⟩ := hst.ints i x hx
        have hbG : b ≠ G := by
          have := HSTG.out _ hbo (by omega)
          dsimp only at this
          have := HI4.out
          intro e
          subst e
          omega
        have c1 := hrb.cell hra
        have c2 := hiS.cell hy
        have f2 := hiS.free q
        have HST5 : Hid (Lst (wr.setCell ⟨G, q, none⟩ (.int .i64 x)) bo n cb xs) := ⟨hst.len, fun j z hj => by
          obtain ⟨b', o', e', hc⟩ := hst.ints j z hj
          refine ⟨b', o', e', ?_⟩
          rw [hbo] at e'
          cases e'
          rw [← hc]
          simp [World.cell?, heap_setCell_other wr ⟨G, q, none⟩ b _ hbG], hst.none⟩
        have HRB5 := Nu.hid (hrb.other (i := q) (show gr ≠ G by omega) (.int .i64 x))
        have HIS5 := Nu.hid (hiS.set q x)
        have HB5 := Nu.hid (hb.setCell (p := ⟨G, q, none⟩) hsG (.int .i64 x))
        have q0 : (0 : Int) ≤ (q : Int) := by omega
        have q1 : (q : Int) < (n : Int) := by omega
        subst hbo
        clear hS hst hrb hiS hb hx hra hq hy HSTG
        go_wp2
        go_roundw
        case rel => exact ⟨i + 1, _, by omega, by go_num, HSTEP.out, HST5.out, HRB5.out, HIS5.out, HB5.out⟩
        case measure => simp [intOf]; omega
      · have hd : ¬ ((i : Int) < (n : Int)) := by omega
        obtain rfl : i = n := by omega
        clear hS hst hrb hiS hb
        go_wp2
        go_ret2
        refine ⟨.inr ⟨HF.out, G, S, by rw [HN.out]; rfl, hsG, HIS.out, ⟨HS.out.len, fun j hj => HS.out.put j (by have := HLEN.out; omega)⟩⟩, HB.out⟩
  · have HF := Nu.hid hf
    have HK2 : Hid (Calls Tryz.prog 62 #[.slice bo n cb, .func (.func kf) #[] bs, .int .i64 most] w1 fun e w' => e = .returned (.tuple #[.slice none 0 0, .int .i64 (Bu.fault most ks)]) ∧ Below w1.heap.size w1 w') := HK1.out.mono (by
      rintro e w' ⟨⟨_, h1⟩ | ⟨h1, _⟩, hb⟩
      · exact ⟨h1, hb⟩
      · exact absurd h1 HF.out)
    obtain ⟨q, hq⟩ : ∃ q, Bu.fault most ks = q := ⟨_, rfl⟩
    rw [hq] at HK2 hf
    have j0 : (q != 0) = true := by simp [hf]
    have HQ := Nu.hid hq
    clear HK1 hq
    go_wp2_with (go_at_call 62; refine HK2.out.mono ?_; rintro e w2 ⟨rfl, hb2⟩; have HB2 := Nu.hid (HB1.out.trans (hb2.mono HB1.out.size)); clear hb2; refine Hid.out ?_)
    refine Nu.hid ?_
    go_wp2
    go_ret2
    exact ⟨.inl ⟨HF.out, by rw [HQ.out]; rfl⟩, HB2.out⟩

end Go.Proofs.YtmgoahbloppdmaaGreat

/-
  outs: the half-edges by which edges are walked, by vertices, each list by nesting depth.
-/
namespace Go.Proofs.YtmgoahbloppdmaaGreat
open Go.RowKit

theorem rows_nil {V : World} {B n : Nat} (hB : B ≤ V.heap.size) (hn : n ≤ 8388608) : RowsZ (V.alloc (.cells (madeCells #[.slice none 0 0] n) 25)) B (.slice (some ⟨V.heap.size, 0, none⟩) n n) (List.replicate n (.slice none 0 0)) (List.replicate n []) := by
  have em : madeCells #[Value.slice none 0 0] n = Array.replicate n (Value.slice none 0 0) := by
    apply Array.ext
    · rw [size_madeCells]; simp
    · intro i h1 h2
      simp [madeCells, Nat.mod_one]
  rw [em]
  refine ⟨by simp, ⟨by simp, .inr ⟨V.heap.size, n, Array.replicate n (Value.slice none 0 0), by simp, hB, heap_alloc_new V _, by simp, by unfold maxLen; omega, by simp, by simp⟩⟩, fun u x l hx hl => ?_, fun u u' x x' b _ hx _ hb => ?_, fun u x b hx hb => ?_⟩
  · rw [List.getElem?_replicate] at hx hl
    split at hx
    · rename_i hu
      rw [if_pos hu] at hl
      cases hx
      cases hl
      exact OwnZ.nil _ _
    · cases hx
  · rw [List.getElem?_replicate] at hx
    split at hx
    · cases hx; cases hb
    · cases hx
  · rw [List.getElem?_replicate] at hx
    split at hx
    · cases hx; cases hb
    · cases hx

section
variable {p : Nat} {av : Value} {n : Nat} {es : List (Int × Int)} {f : For} {s : Df.St}

set_option maxRecDepth 100000 in
set_option maxHeartbeats 4000000 in
/-- The key. -/
theorem okey_any (Bn g3 b : Nat) (h : Int) (A3 : List Int) (w : World) (hb : Boxed w Bn 25 (.slice (some ⟨g3, 0, none⟩) es.length es.length)) (hA : IntsIn w g3 A3) (hl : A3.length = es.length) (hbl : b < es.length) (h0 : 0 ≤ h) (h2 : h.toNat / 2 = b) (hf : es.length ≤ 4194304) :
    Calls Tryz.prog 40 #[.int .i64 h, .pointer (some ⟨Bn, 0, none⟩)] w fun e w' => e = .returned (.int .i64 (A3.getD b 0)) ∧ Below w.heap.size w w' := by
  obtain ⟨z, hz⟩ : ∃ z, A3[b]? = some z := ⟨_, List.getElem?_eq_getElem (by omega)⟩
  have c1 := hA.cell hz
  have c0 := hb.cell
  have e : A3.getD b 0 = z := by rw [List.getD_eq_getElem?_getD, hz]; rfl
  rw [e]
  have htd : h.tdiv 2 = (b : Int) := by rw [Int.tdiv_eq_ediv_of_nonneg h0]; omega
  have htd2 : h / 2 = (b : Int) := by omega
  have b0 : (0 : Int) ≤ (b : Int) := by omega
  have b1 : (b : Int) < (es.length : Int) := by omega
  clear hA hb hz e
  go_enter Tryz.func40, Tryz.ntmps40
  go_wp2
  go_ret
  exact ⟨rfl, Below.refl _ _⟩

def OutsPost (n : Nat) (es : List (Int × Int)) (s : Df.St) (w : World) (e : Ending) (w' : World) : Prop :=
  ∃ vo vs, e = .returned vo ∧ RowsZ w' w.heap.size vo vs (Lo.outTo n es s es.length) ∧ Below w.heap.size w w'

set_option maxRecDepth 100000 in
set_option maxHeartbeats 16000000 in
theorem outs_any (g3 : Nat) (w : World) (hd : Wd w p av n es f s) (h3 : IntsIn w g3 (upTo (Lo.nest es s) es.length)) :
    Calls Tryz.prog 22 #[.pointer (some ⟨p, 0, none⟩), .slice (some ⟨g3, 0, none⟩) es.length es.length] w (OutsPost n es s w) := by
  have hfew := hd.val.few
  have hn := hd.val.hi
  have hlo := hd.vf.lens.2.2.2
  obtain ⟨i0, hi, hz0, hz1, hz2⟩ := info_parts Tryz.infoNum
  obtain ⟨i1, hi1, hy0, hy1, hy2⟩ := info_parts Tryz.infoRow
  have hmo : ∀ W, (Instr.makeSlice 29 (.int .i64 (n : Int)) (.int .i64 (n : Int))).run Tryz.prog W = .ok (.slice (some ⟨W.heap.size, 0, none⟩) n n) (W.alloc (.cells (madeCells #[.slice none 0 0] n) 25)) := fun W => by
    have := run_make (P := Tryz.prog) W 29 25 i1 (.slice none 0 0) Tryz.underlying29 hi1 hy0 .i64 .i64 (n : Int) (n : Int) (by omega) (by omega) (by rw [hy2]; omega) (by omega)
    rw [this, hy1]
    simp [Value.cells]
  obtain ⟨W, hW⟩ : ∃ W, W = w.alloc (.cells #[.slice (some ⟨g3, 0, none⟩) es.length es.length] 25) := ⟨_, rfl⟩
  have hbW : Below w.heap.size w W := by rw [hW]; exact (Below.refl _ _).alloc (Nat.le_refl _) _
  have bn : Boxed W w.heap.size 25 (.slice (some ⟨g3, 0, none⟩) es.length es.length) := by rw [hW]; exact Boxed.new _ _ _
  have hdW := hd.later hbW
  have c0 := hdW.c0
  have c4 := hdW.c4
  have hent := enters_of Tryz.func40 (by kernel_rfl) rfl
  have HN : Hid (∀ V, Below w.heap.size w V → Calls Tryz.prog 38 #[av] V fun e w' => e = .returned (.int .i64 (n : Int)) ∧ w' = V) := fun V hV => aN_any av n es V (hd.later hV).adj
  have hlst : Lst W f.a4 es.length f.c4 s.ori := by have := hdW.lst.l4; rwa [hlo] at this
  have HSO := Nu.hid (sortint_any 40 #[.pointer (some ⟨w.heap.size, 0, none⟩)] (Lo.nkey es s) (2 * (n : Int)) f.a4 f.c4 es.length s.ori (s.ori.map (Lo.nkey es s)) W (by omega) hlst rfl hent (fun V x hV hx => by
    obtain ⟨b, hb⟩ := List.getElem?_of_mem hx
    have hbl : b < es.length := by rw [← hlo]; exact (List.getElem?_eq_some_iff.1 hb).1
    rw [Lo.ori_at hd.vf hbl] at hb
    obtain rfl := Option.some.inj hb
    have ho := Lo.ori_half hd.vf hbl
    have := okey_any (es := es) w.heap.size g3 b (Df.at_ s.ori b) (upTo (Lo.nest es s) es.length) V ((hV.block _ bn.lt).trans bn) (h3.later (hbW.trans (hV.mono hbW.size))) (upTo_len _ _) hbl ho.2.1 ho.1 hfew
    have e : (upTo (Lo.nest es s) es.length).getD b 0 = Lo.nkey es s (Df.at_ s.ori b) := by
      rw [List.getD_eq_getElem?_getD, upTo_at hbl]
      unfold Lo.nkey
      rw [ho.1]
      rfl
    rw [e] at this
    exact this))
  have HSO1 : Hid (Calls Tryz.prog 39 #[.slice f.a4 es.length f.c4, .func (.func 40) #[] #[.pointer (some ⟨w.heap.size, 0, none⟩)], .int .i64 (2 * (n : Int))] W fun e w' => ∃ (gS : Nat) (S : List Int), e = .returned (.tuple #[.slice (some ⟨gS, 0, none⟩) es.length es.length, .int .i64 0]) ∧ W.heap.size ≤ gS ∧ IntsBlk w' gS S ∧ Bu.Sorted (s.ori.map (Lo.nkey es s)) s.ori S ∧ Below W.heap.size W w') := HSO.out.mono fun e w' h => by
    obtain ⟨hcase, hb2⟩ := h
    obtain ⟨-, gS, S, he, hgS, hiS, hSo⟩ := hcase.resolve_left (fun h => h.1 (Lo.no_fault hd.val hd.vf))
    rw [hlo] at he
    exact ⟨gS, S, he, hgS, hiS, hSo, hb2⟩
  have HFR : Hid (∀ V (i : Nat), Below w.heap.size w V → i < 2 * es.length → Calls Tryz.prog 41 #[av, .int .i64 (i : Int)] V fun e w' => e = .returned (.int .i64 (Cs.fr es i : Int)) ∧ w' = V) := fun V i hV hi => (from_any av n es (i : Int) V (hd.later hV).adj).mono fun e w' ⟨he, hw⟩ => ⟨by rw [he, Cs.frI_in hi], hw⟩
  have HD := Nu.hid hd
  have HWW := Nu.hid hW
  have HBW := Nu.hid hbW
  have hnw : (2 : Int) * (n : Int) ≤ 2097152 := by omega
  rw [hW] at c0
  clear hW hd hdW h3 hbW bn hlst hent
  go_enter Tryz.func22, Tryz.ntmps22
  go_wp2_with (first | (go_at_call 38; rw [← HWW.out]; refine (HN.out _ HBW.out).mono ?_; rintro e w1 ⟨rfl, rfl⟩) | (go_at_call 39; refine HSO1.out.mono ?_; rintro e w2 ⟨gS, S, rfl, hgS, hiS, hSo, hb2⟩; refine Hid.out ?_))
  refine Nu.hid ?_
  have hB2 : Below w.heap.size w w2 := HBW.out.trans (hb2.mono HBW.out.size)
  have hSl : S.length = es.length := by rw [hSo.len, List.length_map]; exact hlo
  have hlS := hiS.lt
  have d0 := (HD.out.later hB2).c0
  have HN2 := Nu.hid (HN.out w2 hB2)
  have HSO2 := Nu.hid hSo
  have HB2 := Nu.hid hB2
  have HIS := Nu.hid hiS
  have hs2 := hB2.size
  have HROW0 : Hid (RowsZ (w2.alloc (.cells (madeCells #[.slice none 0 0] n) 25)) w2.heap.size (.slice (some ⟨w2.heap.size, 0, none⟩) n n) (List.replicate n (.slice none 0 0)) (Lo.gat n es S 0)) := by
    rw [Lo.gat_zero]
    exact rows_nil (Nat.le_refl _) (by omega)
  clear hb2 hSo hiS hB2 c4 c0 HSO HSO1
  go_wp2_with (go_at_call 38; refine HN2.out.mono ?_; rintro e w3 ⟨rfl, rfl⟩)
  clear d0 hmo
  go_loopw [37] (fun i wr => ∃ (k : Nat) (vs : List Value), k ≤ es.length ∧ i = .int .i64 (k : Int) ∧ RowsZ wr w3.heap.size (.slice (some ⟨w3.heap.size, 0, none⟩) n n) vs (Lo.gat n es S k) ∧ Below w3.heap.size w3 wr) (fun i _ => es.length - (intOf i).toNat)
  case atStart => exact ⟨0, _, Nat.zero_le _, rfl, HROW0.out, (Below.refl _ _).alloc (Nat.le_refl _) _⟩
  case round =>
    obtain ⟨k, vs, hk, rfl, hrows, hb⟩ := hrel
    have hsz := hb.size
    have hbw : Below w.heap.size w wr := HB2.out.trans (hb.mono HB2.out.size)
    by_cases hlt : k < es.length
    · obtain ⟨h, hh⟩ : ∃ h, S[k]? = some h := ⟨_, List.getElem?_eq_getElem (by omega)⟩
      obtain ⟨e, he, heq⟩ := (Lo.sorted_mem HD.out.vf HSO2.out h).1 (List.mem_of_getElem? hh)
      obtain ⟨ho1, -, ho3, -⟩ := Lo.oh_of HD.out.vf he
      rw [ho1] at heq
      subst heq
      obtain ⟨i, hie⟩ : ∃ i, Lo.oh s e = i := ⟨_, rfl⟩
      rw [hie] at hh ho3
      have cS := (hb.cell (p := ⟨gS, k, none⟩) hlS).trans (HIS.out.cell hh)
      have hvn := (Cs.half_lt HD.out.val ho3).1
      have HF := Nu.hid (HFR.out wr i hbw ho3)
      have c0 := (HD.out.later hbw).c0
      obtain ⟨v, hv⟩ : ∃ v, Cs.fr es i = v := ⟨_, rfl⟩
      have HGS : Hid (Lo.gat n es S (k + 1) = (Lo.gat n es S k).set v (Lo.fromV es (S.take k) v ++ [(i : Int)])) := by
        show _ = _
        have := Lo.gat_succ (n := n) (es := es) hh
        rw [Int.toNat_natCast, hv] at this
        exact this
      rw [hv] at HF hvn
      have hl := Lo.gat_at (es := es) (S := S) (k := k) hvn
      have hll := Lo.fromV_len es (S.take k) v
      have htk : (S.take k).length ≤ k := by simp; omega
      obtain ⟨l, hle⟩ : ∃ l, Lo.fromV es (S.take k) v = l := ⟨_, rfl⟩
      rw [hle] at hl hll HGS
      have hgl := Lo.gat_len n es S k
      obtain ⟨x, hx⟩ := hrows.at' hl
      have hox := hrows.row v x l hx hl
      obtain ⟨xo, xc, hxe, -, -⟩ := hox.form
      subst hxe
      have cx : wr.cell? ⟨w3.heap.size, v, none⟩ = some (.slice xo l.length xc) := by
        have := World.ownsRow.cells hrows.outer (g := w3.heap.size) rfl v _ hx
        have ea : ((⟨w3.heap.size, 0, none⟩ : Addr).add v) = ⟨w3.heap.size, v, none⟩ := by
          by_cases h0 : v = 0 <;> simp [Addr.add, h0]
        rwa [ea] at this
      obtain ⟨p1, hp1⟩ : ∃ p1, l.length = p1 := ⟨_, rfl⟩
      unfold OwnZ at hox
      rw [hp1] at hox hx cx hll
      have HOX := Nu.hid hox
      have HX := Nu.hid hx
      have HL := Nu.hid hl
      have HP1 := Nu.hid hp1
      have HROWS := Nu.hid hrows
      have HB := Nu.hid hb
      have HGL := Nu.hid hgl
      have v0 : (0 : Int) ≤ (v : Int) := by omega
      have v1 : (v : Int) < (n : Int) := by omega
      have k0 : (0 : Int) ≤ (k : Int) := by omega
      have k1 : (k : Int) < (es.length : Int) := by omega
      clear hox hx hl hp1 hrows hb hgl hh hle hv hie ho1 hbw
      go_wp2_with (first | (go_at_call 41; refine HF.out.mono ?_; rintro e w4 ⟨rfl, hw4⟩; obtain rfl := hw4) | (at_builtin; refine wpList_append_own_at _ rfl _ _ 25 rfl w3.heap.size 3 i0 (.int .i64 0) 1 8 Tryz.underlying25 hi hz0 hz1 hz2 rfl (by decide) _ _ _ rfl (World.ownsRow.alloc HOX.out _) ⟨w4.heap.size, 0, none⟩ 1 1 [.int .i64 (i : Int)] rfl rfl (cell_one_new _ _ _) (by simp [Value.oneCell']) (by unfold maxLen; omega) (by omega) (by simp; omega) ?_; refine Hid.out ?_))
      refine Nu.hid ?_
      intro v4 w5 hown4 hgrow4 _ hat4
      obtain ⟨g4, c4, hv4⟩ := own_succ hown4
      subst hv4
      have ho4 : OwnZ w5 w3.heap.size (.slice (some ⟨g4, 0, none⟩) (p1 + 1) c4) (l ++ [(i : Int)]) := by
        unfold OwnZ
        rw [List.length_append, List.map_append, HP1.out]
        exact hown4
      have hrw : RowsZ w4 w3.heap.size (.slice (some ⟨w3.heap.size, 0, none⟩) (Lo.gat n es S k).length n) vs (Lo.gat n es S k) := by rw [HGL.out]; exact HROWS.out
      obtain ⟨j1, j2, j3, j4⟩ := hrw.put HX.out HL.out ho4 hgrow4 (by simpa using hat4)
      rw [HGL.out, ← HGS.out] at j3
      have HJ3 := Nu.hid j3
      have HJ4 := Nu.hid (HB.out.trans j4)
      clear hown4 hgrow4 hat4 ho4 j3 j4 hrw
      go_wp2
      go_roundw
      case rel => exact ⟨k + 1, _, by omega, by go_num, HJ3.out, HJ4.out⟩
      case measure => simp [intOf]; omega
    · have hd : ¬ ((k : Int) < (es.length : Int)) := by omega
      have hke : k = S.length := by omega
      subst hke
      have HR : Hid (RowsZ wr w3.heap.size (.slice (some ⟨w3.heap.size, 0, none⟩) n n) vs (Lo.outTo n es s es.length)) := by
        rw [Lo.gat_out HD.out.val HD.out.vf HSO2.out] at hrows
        exact hrows
      have HBE := Nu.hid hbw
      clear hrows hb hbw
      go_wp2
      go_ret
      exact ⟨_, vs, rfl, HR.out.lower hs2, HBE.out⟩
end

end Go.Proofs.YtmgoahbloppdmaaGreat
