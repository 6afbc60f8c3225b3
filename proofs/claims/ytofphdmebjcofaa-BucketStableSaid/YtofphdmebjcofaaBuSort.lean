/-
  Clone, Sort at ints.
-/
import Derived.Test.YtofphdmebjcofaaBuLst
import Derived.Lib.SliceRun
namespace Go.Proofs.Ytofphdmebjcofaa
open Go.RowKit

set_option maxRecDepth 100000 in
set_option maxHeartbeats 4000000 in
theorem bclone_any (ao : Option Addr) (n ca : Nat) (l : List Int) (w : World) (h : Lst w ao n ca l) (hn : n ≤ 17592186043904) :
    Calls Try.prog 25 #[.slice ao n ca] w fun e w' => ∃ bo cb, e = .returned (.slice bo n cb) ∧ Lst w' bo n cb l ∧ Below w.heap.size w w' := by
  have HR := Nu.hid h
  have hnil := fun w => Lib.run_eql_slice_nil (P := Try.prog) w 22 3 ao n ca 0 0 Try.underlying22
  rcases ao with _ | y
  · obtain ⟨rfl, rfl⟩ := h.none rfl
    clear h
    go_enter Try.func25, Try.ntmps25
    go_wp2
    go_ret
    exact ⟨none, 0, rfl, HR.out, Below.refl _ _⟩
  · clear h
    go_enter Try.func25, Try.ntmps25
    go_wp2_with (at_builtin; refine wpList_copy_lst rfl _ _ rfl w (some y) n ca l rfl rfl HR.out hn ?_; refine Hid.out ?_)
    refine Nu.hid ?_
    intro gb c w1 hrow hgb hlt hc hb
    have HX := Nu.hid hrow
    have HB := Nu.hid hb
    clear hrow hb hgb
    go_wp2
    go_ret
    refine ⟨some ⟨gb, 0, none⟩, c, rfl, ?_, HB.out⟩
    have hi := ints_in_row HX.out
    exact ⟨HR.out.len, fun j x hj => ⟨gb, 0, rfl, by rw [Nat.zero_add]; exact hi.cell hj⟩, fun e => by cases e⟩

def SortPost (most : Int) (ks xs : List Int) (w : World) (e : Ending) (w' : World) : Prop :=
  ((Bu.fault most ks ≠ 0 ∧ e = .returned (.tuple #[.slice none 0 0, .int .i64 (Bu.fault most ks)])) ∨
   (Bu.fault most ks = 0 ∧ ∃ (g : Nat) (S : List Int), e = .returned (.tuple #[.slice (some ⟨g, 0, none⟩) xs.length xs.length, .int .i64 0]) ∧ w.heap.size ≤ g ∧ IntsBlk w' g S ∧ Bu.Sorted ks xs S)) ∧ Below w.heap.size w w'

set_option maxRecDepth 100000 in
set_option maxHeartbeats 8000000 in
theorem sortint_any (kf : Nat) (bs : Array Value) (key : Int → Int) (most : Int) (ao : Option Addr) (ca n : Nat) (xs ks : List Int) (w : World) (hl : n ≤ 17592186043904) (ha : Lst w ao n ca xs) (hks : ks = xs.map key)
    (hent : ∀ (args : Array Value) (w : World), (callFunc kf args).run Try.prog w = .ok (.enter kf args) w) (hcall : ∀ W x, Below w.heap.size w W → x ∈ xs → Calls Try.prog kf (#[.int .i64 x] ++ bs) W fun e w' => e = .returned (.int .i64 (key x)) ∧ Below W.heap.size W w') :
    Calls Try.prog 12 #[.slice ao n ca, .func (.func kf) #[] bs, .int .i64 most] w (SortPost most ks xs w) := by
  obtain ⟨i0, hi, hz0, hz1, hz2⟩ := info_parts Try.infoNum
  have HN := Nu.hid ha.len
  have HLEN : Hid (ks.length = n) := by show _ = _; rw [hks, List.length_map, ha.len]
  have HCL := Nu.hid (bclone_any ao n ca xs w ha hl)
  have HK : Hid (∀ W bo cb, Lst W bo n cb xs → Below w.heap.size w W → Calls Try.prog 22 #[.slice bo n cb, .func (.func kf) #[] bs, .int .i64 most] W (KeysPost most ks W)) := fun W bo cb h hb =>
    keysint_any kf bs key most bo cb n xs ks W h.len hl h.ints hks hent (fun W2 x hb2 hx => hcall W2 x (hb.trans (hb2.mono hb.size)) hx)
  clear ha hcall hent hks
  go_enter Try.func12, Try.ntmps12
  go_wp2_with (go_at_call 25; refine HCL.out.mono ?_; rintro e w1 ⟨bo, cb, rfl, hst, hb1⟩; have HST := Nu.hid hst; have HB1 := Nu.hid hb1; clear hst hb1; refine Hid.out ?_)
  refine Nu.hid ?_
  have HK1 := Nu.hid (HK.out w1 bo cb HST.out HB1.out)
  clear HK HCL
  by_cases hf : Bu.fault most ks = 0
  · have HF := Nu.hid hf
    have hfew := (fault_few hf).2.2.2
    have HFEW := Nu.hid hfew
    have HK2 : Hid (Calls Try.prog 22 #[.slice bo n cb, .func (.func kf) #[] bs, .int .i64 most] w1 fun e w' => ∃ g : Nat, e = .returned (.tuple #[.slice (some ⟨g, 0, none⟩) n n, .int .i64 0]) ∧ w1.heap.size ≤ g ∧ IntsBlk w' g ks ∧ Below w1.heap.size w1 w') := HK1.out.mono (by
      rintro e w' ⟨⟨h1, _⟩ | ⟨_, g, h2, h3, h4⟩, hb⟩
      · exact absurd HF.out h1
      · rw [HLEN.out] at h2
        exact ⟨g, h2, h3, h4, hb⟩)
    clear HK1 hf hfew
    go_wp2_with (go_at_call 22; refine HK2.out.mono ?_; rintro e w2 ⟨g, rfl, hg, hkb, hb2⟩; have HKB := Nu.hid hkb; have HB2 := Nu.hid (HB1.out.trans (hb2.mono HB1.out.size)); have HST2 := Nu.hid (HST.out.later hb2); clear hkb hb2 hg; refine Hid.out ?_)
    refine Nu.hid ?_
    clear HK2 HST HB1
    go_wp2_with (at_make; refine wpList_make_full _ rfl _ _ 22 rfl w2.heap.size 3 i0 (.int .i64 0) 1 Try.underlying22 hi hz0 hz1 _ _ _ _ n rfl rfl rfl rfl (by rw [hz2]; omega) (by unfold maxLen; omega) (Nat.le_refl _) ?_; refine Hid.out ?_)
    refine Nu.hid ?_
    intro w3 hrow hg3
    rw [made_zeros] at hrow
    have hb3 : Below w2.heap.size w2 w3 := (Below.refl _ _).grown hg3 (Nat.le_refl _) (fun j hj => by cases hj)
    have HI3 := Nu.hid (ints_of_row hrow)
    have HST3 := Nu.hid (HST2.out.later hb3)
    have HKB3 := Nu.hid (HKB.out.later hb3)
    have HB3 := Nu.hid (HB2.out.trans (hb3.mono HB2.out.size))
    have hsG := HB2.out.size
    have hstG : ∀ x, bo = some x → 0 < n → x.block < w2.heap.size := fun x hx h0 => by
      obtain ⟨z, hz⟩ : ∃ z, xs[0]? = some z := ⟨_, List.getElem?_eq_getElem (by have := HN.out; omega)⟩
      obtain ⟨b, o, e, hc⟩ := HST2.out.ints 0 z hz
      rw [hx] at e
      cases e
      exact block_lt_of_cell hc
    have HSTG := Nu.hid hstG
    obtain ⟨G, hG⟩ : ∃ G, G = w2.heap.size := ⟨_, rfl⟩
    rw [← hG] at HI3 HSTG hsG ⊢
    have HRK := Nu.hid (ranks_any (some ⟨g, 0, none⟩) n n ks w3 HLEN.out hl HKB3.out.at HFEW.out)
    clear hrow hg3 hb3 HST2 HKB HB2 hG hstG
    go_wp2_with (go_at_call 24; refine HRK.out.mono ?_; rintro e w4 ⟨gr, rfl, hgr, hrb, hb4⟩; rw [HLEN.out]; have HRB := Nu.hid hrb; have HST4 := Nu.hid (HST3.out.later hb4); have HI4 := Nu.hid (HI3.out.later hb4); have hgr2 := Nat.lt_of_lt_of_le HI3.out.lt hgr; have HB4 := Nu.hid (HB3.out.trans (hb4.mono HB3.out.size)); clear hrb hb4 hgr; refine Hid.out ?_)
    refine Nu.hid ?_
    clear HRK HST3 HI3 HB3 HKB3
    go_wp2
    go_loopw [32] (fun c wr => ∃ (i : Nat) (S : List Int), i ≤ n ∧ c = .int .i64 i ∧ Bu.Laid ks xs S i ∧ Lst wr bo n cb xs ∧ IntsBlk wr gr (Bu.ranks ks) ∧ IntsBlk wr G S ∧ Below w.heap.size w wr) (fun c _ => n - (intOf c).toNat)
    case atStart => exact ⟨0, _, Nat.zero_le _, rfl, ⟨by rw [HLEN.out]; simp, fun i hi => by omega⟩, HST4.out, HRB.out, HI4.out, HB4.out⟩
    case round =>
      obtain ⟨i, S, hin, rfl, hS, hst, hrb, hiS, hb⟩ := hrel
      have HS := Nu.hid hS
      have HIS := Nu.hid hiS
      have HB := Nu.hid hb
      by_cases hlt : i < n
      · have hk0 : (0 : Int) ≤ (i : Int) := by omega
        have hk1 : (i : Int) < (n : Int) := by omega
        have hra := Bu.ranks_at (ks := ks) (i := i) (by rw [HLEN.out]; exact hlt)
        have hrl := Bu.rk_lt (ks := ks) (i := i) (by rw [HLEN.out]; exact hlt)
        rw [HLEN.out] at hrl
        obtain ⟨x, hx⟩ : ∃ x, xs[i]? = some x := ⟨_, List.getElem?_eq_getElem (by have := HN.out; omega)⟩
        have HSTEP := Nu.hid (hS.step (by rw [HLEN.out]; exact hlt) hx)
        obtain ⟨q, hq⟩ : ∃ q, Bu.rk ks i = q := ⟨_, rfl⟩
        rw [hq] at hra hrl HSTEP
        obtain ⟨y, hy⟩ : ∃ y, S[q]? = some y := ⟨_, List.getElem?_eq_getElem (by rw [hS.len, HLEN.out]; exact hrl)⟩
        obtain ⟨b, o, hbo, c0⟩ := hst.ints i x hx
        have hbG : b ≠ G := by
          have := HSTG.out _ hbo (by omega)
          dsimp only at this
          have := HI4.out
          intro e
          subst e
          omega
        have c1 := hrb.cell hra
        have c2 := hiS.cell hy
        have f2 := hiS.free q
        have HST5 : Hid (Lst (wr.setCell ⟨G, q, none⟩ (.int .i64 x)) bo n cb xs) := ⟨hst.len, fun j z hj => by
          obtain ⟨b', o', e', hc⟩ := hst.ints j z hj
          refine ⟨b', o', e', ?_⟩
          rw [hbo] at e'
          cases e'
          rw [← hc]
          simp [World.cell?, heap_setCell_other wr ⟨G, q, none⟩ b _ hbG], hst.none⟩
        have HRB5 := Nu.hid (hrb.other (i := q) (show gr ≠ G by omega) (.int .i64 x))
        have HIS5 := Nu.hid (hiS.set q x)
        have HB5 := Nu.hid (hb.setCell (p := ⟨G, q, none⟩) hsG (.int .i64 x))
        have q0 : (0 : Int) ≤ (q : Int) := by omega
        have q1 : (q : Int) < (n : Int) := by omega
        subst hbo
        clear hS hst hrb hiS hb hx hra hq hy HSTG
        go_wp2
        go_roundw
        case rel => exact ⟨i + 1, _, by omega, by go_num, HSTEP.out, HST5.out, HRB5.out, HIS5.out, HB5.out⟩
        case measure => simp [intOf]; omega
      · have hd : ¬ ((i : Int) < (n : Int)) := by omega
        obtain rfl : i = n := by omega
        clear hS hst hrb hiS hb
        go_wp2
        go_ret2
        refine ⟨.inr ⟨HF.out, G, S, by rw [HN.out]; rfl, hsG, HIS.out, ⟨HS.out.len, fun j hj => HS.out.put j (by have := HLEN.out; omega)⟩⟩, HB.out⟩
  · have HF := Nu.hid hf
    have HK2 : Hid (Calls Try.prog 22 #[.slice bo n cb, .func (.func kf) #[] bs, .int .i64 most] w1 fun e w' => e = .returned (.tuple #[.slice none 0 0, .int .i64 (Bu.fault most ks)]) ∧ Below w1.heap.size w1 w') := HK1.out.mono (by
      rintro e w' ⟨⟨_, h1⟩ | ⟨h1, _⟩, hb⟩
      · exact ⟨h1, hb⟩
      · exact absurd h1 HF.out)
    obtain ⟨q, hq⟩ : ∃ q, Bu.fault most ks = q := ⟨_, rfl⟩
    rw [hq] at HK2 hf
    have j0 : (q != 0) = true := by simp [hf]
    have HQ := Nu.hid hq
    clear HK1 hq
    go_wp2_with (go_at_call 22; refine HK2.out.mono ?_; rintro e w2 ⟨rfl, hb2⟩; have HB2 := Nu.hid (HB1.out.trans (hb2.mono HB1.out.size)); clear hb2; refine Hid.out ?_)
    refine Nu.hid ?_
    go_wp2
    go_ret2
    exact ⟨.inl ⟨HF.out, by rw [HQ.out]; rfl⟩, HB2.out⟩

end Go.Proofs.Ytofphdmebjcofaa
