/-
  keysOf and Sort, at texts.
-/
import Derived.Test.YtofphdmebjcofaaDoorBuLst
namespace Go.Proofs.YtofphdmebjcofaaDoor
open Go.RowKit

theorem Tryd.infoStr : (Tryd.prog.info? 9).map (fun i => (i.zero, i.size, i.bytes)) = some (some (.string ByteArray.empty), 1, 16) := by kernel_rfl

/-- The texts l lie at ao. -/
def StrsAt (w : World) (ao : Option Addr) (l : List ByteArray) : Prop := ∀ (j : Nat) (x : ByteArray), l[j]? = some x → ∃ b o : Nat, ao = some ⟨b, o, none⟩ ∧ w.cell? ⟨b, o + j, none⟩ = some (.string x)
theorem StrsAt.later {w w' : World} {ao : Option Addr} {l : List ByteArray} (h : StrsAt w ao l) (hb : Below w.heap.size w w') : StrsAt w' ao l := fun j x hj => by
  obtain ⟨b, o, e, h0⟩ := h j x hj
  exact ⟨b, o, e, (hb.cell (p := ⟨b, o + j, none⟩) (block_lt_of_cell h0)).trans h0⟩

/-- Block g holds just the texts l. -/
def StrsBlk (w : World) (g : Nat) (l : List ByteArray) : Prop := w.heap[g]? = some (.cells (l.map Value.string).toArray 9 (0, 0))

section
variable {w w' : World} {g : Nat} {l : List ByteArray}
theorem StrsBlk.lt (h : StrsBlk w g l) : g < w.heap.size := lt_of_block h
theorem StrsBlk.cell (h : StrsBlk w g l) {i : Nat} {x : ByteArray} (hx : l[i]? = some x) : w.cell? ⟨g, i, none⟩ = some (.string x) := by
  unfold StrsBlk at h
  simp [World.cell?, h, hx]
theorem StrsBlk.free (h : StrsBlk w g l) (i : Nat) : w.frozen? ⟨g, i, none⟩ = false := by
  unfold StrsBlk at h
  simp [World.frozen?, h]
theorem StrsBlk.set (h : StrsBlk w g l) (i : Nat) (x : ByteArray) : StrsBlk (w.setCell ⟨g, i, none⟩ (.string x)) g (l.set i x) := by
  unfold StrsBlk at h ⊢
  rw [heap_setCell_same w g i _ _ _ h]
  simp [List.map_set]
theorem StrsBlk.later (h : StrsBlk w g l) (hb : Below w.heap.size w w') : StrsBlk w' g l := (hb.block g h.lt).trans h
theorem StrsBlk.at (h : StrsBlk w g l) : StrsAt w (some ⟨g, 0, none⟩) l := fun j x hj => ⟨g, 0, rfl, by rw [Nat.zero_add]; exact h.cell hj⟩
end

theorem made_strs (n : Nat) : (madeCells #[.string ByteArray.empty] n).toList = (List.replicate n ByteArray.empty).map Value.string := by
  rw [toList_madeCells_one, List.map_replicate]

theorem strs_of_row {w : World} {B g n : Nat} {xs : List ByteArray} (h : w.ownsRow B 9 1 (.slice (some ⟨g, 0, none⟩) n n) n (xs.map Value.string)) : StrsBlk w g xs := by
  rcases h.2 with ⟨h, _⟩ | ⟨g', cap, cur, e, _, hh, _, _, hs, ht⟩
  · cases h
  cases e
  have e1 : cur.toList = xs.map Value.string := by
    rw [← ht]
    exact (List.take_of_length_le (by simp; omega)).symm
  unfold StrsBlk
  rw [hh, ← e1]

/-- A list of the texts l, wherever it lies; it is not nil. -/
structure LstS (w : World) (ao : Option Addr) (n ca : Nat) (l : List ByteArray) : Prop where
  len : l.length = n
  strs : StrsAt w ao l
  some : ∃ y, ao = some y
theorem LstS.later {w w' : World} {ao : Option Addr} {n ca : Nat} {l : List ByteArray} (h : LstS w ao n ca l) (hb : Below w.heap.size w w') : LstS w' ao n ca l := ⟨h.len, h.strs.later hb, h.some⟩

set_option maxRecDepth 100000 in
set_option maxHeartbeats 8000000 in
theorem keysstr_any (kf : Nat) (bs : Array Value) (key : ByteArray → Int) (most : Int) (ao : Option Addr) (ca n : Nat) (xs : List ByteArray) (ks : List Int) (w : World) (hn : xs.length = n) (hl : n ≤ 1000000) (ha : StrsAt w ao xs) (hks : ks = xs.map key)
    (hent : ∀ (args : Array Value) (w : World), (callFunc kf args).run Tryd.prog w = .ok (.enter kf args) w) (hcall : ∀ W x, Below w.heap.size w W → x ∈ xs → Calls Tryd.prog kf (#[.string x] ++ bs) W fun e w' => e = .returned (.int .i64 (key x)) ∧ Below W.heap.size W w') :
    Calls Tryd.prog 22 #[.slice ao n ca, .func (.func kf) #[] bs, .int .i64 most] w (KeysPost most ks w) := by
  obtain ⟨i0, hi, hz0, hz1, hz2⟩ := info_parts Tryd.infoNum
  have HA := Nu.hid ha
  have HN := Nu.hid hn
  have HCALL := Nu.hid hcall
  have HKS := Nu.hid hks
  have hnil := fun w => run_eql_func_nil (P := Tryd.prog) w 42 kf bs Tryd.underlying42
  have HLEN : Hid (ks.length = n) := by show _ = _; rw [hks, List.length_map, hn]
  clear ha hn hcall hks
  by_cases h1 : most < 0
  · have HF : Hid (Bu.fault most ks = 2) := Bu.fault_two (.inl h1)
    go_enter Tryd.func22, Tryd.ntmps22
    go_wp2
    go_ret2
    exact ⟨.inl ⟨by rw [HF.out]; decide, by rw [HF.out]; rfl⟩, Below.refl _ _⟩
  by_cases h2 : 4194304 < most
  · have HF : Hid (Bu.fault most ks = 2) := Bu.fault_two (.inr h2)
    go_enter Tryd.func22, Tryd.ntmps22
    go_wp2
    go_ret2
    exact ⟨.inl ⟨by rw [HF.out]; decide, by rw [HF.out]; rfl⟩, Below.refl _ _⟩
  have HR12 : Hid (¬ (most < 0 ∨ 4194304 < most)) := by show ¬ _; omega
  go_enter Tryd.func22, Tryd.ntmps22
  go_wp2_with (at_make; refine wpList_make_full _ rfl _ _ 22 rfl w.heap.size 3 i0 (.int .i64 0) 1 Tryd.underlying22 hi hz0 hz1 _ _ _ _ n rfl rfl rfl rfl (by rw [hz2]; omega) (by unfold maxLen; omega) (Nat.le_refl _) ?_; refine Hid.out ?_)
  refine Nu.hid ?_
  intro w2 hrow hg2
  rw [made_zeros] at hrow
  have HI2 := Nu.hid (ints_of_row hrow)
  have HB2 : Hid (Below w.heap.size w w2) := (Below.refl _ _).grown hg2 (Nat.le_refl _) (fun j hj => by cases hj)
  clear hrow hg2
  go_wp2
  go_loopw [27] (fun c wr => ∃ (i : Nat) (R : List Int), i ≤ n ∧ c = .int .i64 i ∧ R.length = n ∧ (∀ j, j < i → R[j]? = ks[j]?) ∧ (ks.take i).any (Bu.bad most) = false ∧ IntsBlk wr w.heap.size R ∧ Below w.heap.size w wr) (fun c _ => n - (intOf c).toNat)
  case atStart => exact ⟨0, _, Nat.zero_le _, rfl, by simp, fun j hj => by omega, by simp, HI2.out, HB2.out⟩
  case round =>
    obtain ⟨i, R, hin, rfl, hRl, hR, hany, hiR, hb⟩ := hrel
    have HR := Nu.hid hR
    have HIR := Nu.hid hiR
    have HB := Nu.hid hb
    have HANY := Nu.hid hany
    by_cases hlt : i < n
    · have hk0 : (0 : Int) ≤ (i : Int) := by omega
      have hk1 : (i : Int) < (n : Int) := by omega
      obtain ⟨x, hx⟩ : ∃ x, xs[i]? = some x := ⟨_, List.getElem?_eq_getElem (by have := HN.out; omega)⟩
      have hkx : ks[i]? = some (key x) := by rw [HKS.out, List.getElem?_map, hx]; rfl
      obtain ⟨b, o, rfl, c0⟩ := (HA.out.later HB.out) i _ hx
      have HC := Nu.hid (HCALL.out wr x hb (List.mem_of_getElem? hx))
      obtain ⟨y, hy⟩ : ∃ y, R[i]? = some y := ⟨_, List.getElem?_eq_getElem (by omega)⟩
      generalize key x = z at hkx HC
      have HKX := Nu.hid hkx
      have HY := Nu.hid hy
      clear hR hiR hb hany hx hkx hy
      go_wp2_with (go_at_fn kf; refine HC.out.mono ?_; rintro e w3 ⟨rfl, hb3⟩; refine Hid.out ?_)
      refine Nu.hid ?_
      have HB3 := Nu.hid (HB.out.trans (hb3.mono HB.out.size))
      have hiR3 := HIR.out.later hb3
      clear hb3
      by_cases q1 : z < 0
      · have HF : Hid (Bu.fault most ks = 60) := Bu.fault_key HR12.out (Bu.any_of HKX.out (Bu.bad_yes (.inl q1)))
        clear hiR3
        go_wp2
        go_ret2
        exact ⟨.inl ⟨by rw [HF.out]; decide, by rw [HF.out]; rfl⟩, HB3.out⟩
      by_cases q2 : most < z
      · have HF : Hid (Bu.fault most ks = 60) := Bu.fault_key HR12.out (Bu.any_of HKX.out (Bu.bad_yes (.inr q2)))
        clear hiR3
        go_wp2
        go_ret2
        exact ⟨.inl ⟨by rw [HF.out]; decide, by rw [HF.out]; rfl⟩, HB3.out⟩
      have c2 := hiR3.cell HY.out
      have f2 := hiR3.free i
      have HNEXT := Nu.hid (Bu.any_take_succ HKX.out HANY.out (Bu.bad_no (by omega)))
      have HR3 := Nu.hid (hiR3.set i z)
      have HB4 := Nu.hid (HB3.out.setCell (p := ⟨w.heap.size, i, none⟩) (Nat.le_refl _) (.int .i64 z))
      have HR2 := Nu.hid (take_set_succ (by rw [hRl, HLEN.out]) HR.out HKX.out)
      have HRL : Hid ((R.set i z).length = n) := by show _ = _; simp [hRl]
      clear hiR3
      go_wp2
      go_roundw
      case rel => exact ⟨i + 1, _, by omega, by go_num, HRL.out, HR2.out, HNEXT.out, HR3.out, HB4.out⟩
      case measure => simp [intOf]; omega
    · have hd : ¬ ((i : Int) < (n : Int)) := by omega
      obtain rfl : i = n := by omega
      clear hR hiR hb hany
      go_wp2
      go_ret2
      have hks : ks.take i = ks := List.take_of_length_le (by have := HLEN.out; omega)
      have e : R = ks := List.ext_getElem? fun j => by
        by_cases hj : j < i
        · exact HR.out j hj
        · rw [List.getElem?_eq_none (by omega), List.getElem?_eq_none (by have := HLEN.out; omega)]
      have hany := HANY.out
      rw [hks] at hany
      refine ⟨.inr ⟨Bu.fault_none HR12.out hany, w.heap.size, ?_, Nat.le_refl _, ?_⟩, HB.out⟩
      · rw [HLEN.out]; rfl
      · rw [← e]; exact HIR.out

def SortSPost (most : Int) (ks : List Int) (xs : List ByteArray) (w : World) (e : Ending) (w' : World) : Prop :=
  ((Bu.fault most ks ≠ 0 ∧ e = .returned (.tuple #[.slice none 0 0, .int .i64 (Bu.fault most ks)])) ∨
   (Bu.fault most ks = 0 ∧ ∃ (g : Nat) (S : List ByteArray), e = .returned (.tuple #[.slice (some ⟨g, 0, none⟩) xs.length xs.length, .int .i64 0]) ∧ w.heap.size ≤ g ∧ StrsBlk w' g S ∧ Bu.Sorted ks xs S)) ∧ Below w.heap.size w w'

set_option maxRecDepth 100000 in
set_option maxHeartbeats 4000000 in
theorem sclone_any (ao : Option Addr) (n ca : Nat) (l : List ByteArray) (w : World) (h : LstS w ao n ca l) (hn : n ≤ 1000000) :
    Calls Tryd.prog 21 #[.slice ao n ca] w fun e w' => ∃ bo cb, e = .returned (.slice bo n cb) ∧ LstS w' bo n cb l ∧ Below w.heap.size w w' := by
  obtain ⟨i0, hi, hz0, hz1, hz2⟩ := info_parts Tryd.infoStr
  have HR := Nu.hid h
  have hnil := fun w => Lib.run_eql_slice_nil (P := Tryd.prog) w 39 9 ao n ca 0 0 Tryd.underlying39
  obtain ⟨y, rfl⟩ := h.some
  have hown0 : Hid ((w.alloc (.cells #[] 9)).ownsRow w.heap.size 9 1 (.slice (some ⟨w.heap.size, 0, none⟩) 0 0) 0 []) := World.ownsRow_made w #[] 0 (Nat.le_refl _) (Nat.zero_le _) rfl
  have HC : Hid (∀ j u, (l.map Value.string)[j]? = some u → (w.alloc (.cells #[] 9)).cell? (y.add j) = some u) := fun j u hj => by
    rw [List.getElem?_map] at hj
    cases hlj : l[j]? with
    | none => rw [hlj] at hj; cases hj
    | some z =>
      rw [hlj] at hj
      obtain rfl := Option.some.inj hj
      obtain ⟨b, o', e, hc⟩ := HR.out.strs j z hlj
      cases e
      have ea : ((⟨b, o', none⟩ : Addr).add j) = ⟨b, o' + j, none⟩ := by
        by_cases h0 : j = 0 <;> simp [Addr.add, h0]
      rw [ea]
      exact (World.grownBy_alloc w _ none).cell hc (by simp)
  have HONE : Hid (∀ u ∈ l.map Value.string, u.oneCell' = true) := fun u hu => by
    obtain ⟨z, _, rfl⟩ := List.mem_map.1 hu
    simp [Value.oneCell']
  have HB0 : Hid (Below w.heap.size w (w.alloc (.cells #[] 9))) := (Below.refl _ _).alloc (Nat.le_refl _) _
  have HL : Hid ((l.map Value.string).length = n * 1) := by show _ = _; rw [List.length_map, h.len]; omega
  clear h
  go_enter Tryd.func21, Tryd.ntmps21
  go_wp2_with (at_builtin; refine wpList_append_own _ rfl _ _ 39 rfl w.heap.size 9 i0 (.string ByteArray.empty) 1 16 Tryd.underlying39 hi hz0 hz1 hz2 rfl (by decide) _ 0 [] rfl hown0.out y n ca (l.map Value.string) rfl HL.out HC.out HONE.out (by unfold maxLen; omega) (by rw [Nat.zero_add]; omega) (by simp) ?_; refine Hid.out ?_)
  refine Nu.hid ?_
  intro v' w' hown' hg hiff
  have hne : v' ≠ .slice none 0 0 := hiff
  have HB1 : Hid (Below w.heap.size w w') := HB0.out.grown hg (by simp) (fun q hq => by cases hq; exact Nat.le_refl _)
  have HO := Nu.hid hown'
  obtain ⟨gb, c, hv⟩ : ∃ gb c, v' = .slice (some ⟨gb, 0, none⟩) n c := by
    rcases hown'.2 with ⟨hnil, _⟩ | ⟨gb, c, cur, e, _⟩
    · exact absurd hnil hne
    · exact ⟨gb, c, e⟩
  subst hv
  clear hown' hg hiff hne hown0 HC HB0
  go_wp2
  go_ret
  refine ⟨some ⟨gb, 0, none⟩, c, rfl, ⟨HR.out.len, fun j x hj => ⟨gb, 0, rfl, ?_⟩, _, rfl⟩, HB1.out⟩
  have := World.ownsRow.cells HO.out (g := gb) rfl j (.string x) (by rw [List.getElem?_map, hj]; rfl)
  have ea : ((⟨gb, 0, none⟩ : Addr).add j) = ⟨gb, 0 + j, none⟩ := by
    by_cases h0 : j = 0 <;> simp [Addr.add, h0]
  rw [ea] at this
  exact this

set_option maxRecDepth 100000 in
set_option maxHeartbeats 8000000 in
theorem sortstr_any (kf : Nat) (bs : Array Value) (key : ByteArray → Int) (most : Int) (ao : Option Addr) (ca n : Nat) (xs : List ByteArray) (ks : List Int) (w : World) (hl : n ≤ 1000000) (ha : LstS w ao n ca xs) (hks : ks = xs.map key)
    (hent : ∀ (args : Array Value) (w : World), (callFunc kf args).run Tryd.prog w = .ok (.enter kf args) w) (hcall : ∀ W x, Below w.heap.size w W → x ∈ xs → Calls Tryd.prog kf (#[.string x] ++ bs) W fun e w' => e = .returned (.int .i64 (key x)) ∧ Below W.heap.size W w') :
    Calls Tryd.prog 11 #[.slice ao n ca, .func (.func kf) #[] bs, .int .i64 most] w (SortSPost most ks xs w) := by
  obtain ⟨i0, hi, hz0, hz1, hz2⟩ := info_parts Tryd.infoStr
  have HN := Nu.hid ha.len
  have HLEN : Hid (ks.length = n) := by show _ = _; rw [hks, List.length_map, ha.len]
  have HCL := Nu.hid (sclone_any ao n ca xs w ha hl)
  have HK : Hid (∀ W bo cb, LstS W bo n cb xs → Below w.heap.size w W → Calls Tryd.prog 22 #[.slice bo n cb, .func (.func kf) #[] bs, .int .i64 most] W (KeysPost most ks W)) := fun W bo cb h hb =>
    keysstr_any kf bs key most bo cb n xs ks W h.len hl h.strs hks hent (fun W2 x hb2 hx => hcall W2 x (hb.trans (hb2.mono hb.size)) hx)
  clear ha hcall hent hks
  go_enter Tryd.func11, Tryd.ntmps11
  go_wp2_with (go_at_call 21; refine HCL.out.mono ?_; rintro e w1 ⟨bo, cb, rfl, hst, hb1⟩; have HST := Nu.hid hst; have HB1 := Nu.hid hb1; clear hst hb1; refine Hid.out ?_)
  refine Nu.hid ?_
  have HK1 := Nu.hid (HK.out w1 bo cb HST.out HB1.out)
  clear HK HCL
  by_cases hf : Bu.fault most ks = 0
  · have HF := Nu.hid hf
    have hfew := (fault_few hf).2.2.2
    have HFEW := Nu.hid hfew
    have HK2 : Hid (Calls Tryd.prog 22 #[.slice bo n cb, .func (.func kf) #[] bs, .int .i64 most] w1 fun e w' => ∃ g : Nat, e = .returned (.tuple #[.slice (some ⟨g, 0, none⟩) n n, .int .i64 0]) ∧ w1.heap.size ≤ g ∧ IntsBlk w' g ks ∧ Below w1.heap.size w1 w') := HK1.out.mono (by
      rintro e w' ⟨⟨h1, _⟩ | ⟨_, g, h2, h3, h4⟩, hb⟩
      · exact absurd HF.out h1
      · rw [HLEN.out] at h2
        exact ⟨g, h2, h3, h4, hb⟩)
    clear HK1 hf hfew
    go_wp2_with (go_at_call 22; refine HK2.out.mono ?_; rintro e w2 ⟨g, rfl, hg, hkb, hb2⟩; have HKB := Nu.hid hkb; have HB2 := Nu.hid (HB1.out.trans (hb2.mono HB1.out.size)); have HST2 := Nu.hid (HST.out.later hb2); clear hkb hb2 hg; refine Hid.out ?_)
    refine Nu.hid ?_
    clear HK2 HST HB1
    go_wp2_with (at_make; refine wpList_make_full _ rfl _ _ 39 rfl w2.heap.size 9 i0 (.string ByteArray.empty) 1 Tryd.underlying39 hi hz0 hz1 _ _ _ _ n rfl rfl rfl rfl (by rw [hz2]; omega) (by unfold maxLen; omega) (Nat.le_refl _) ?_; refine Hid.out ?_)
    refine Nu.hid ?_
    intro w3 hrow hg3
    rw [made_strs] at hrow
    have hb3 : Below w2.heap.size w2 w3 := (Below.refl _ _).grown hg3 (Nat.le_refl _) (fun j hj => by cases hj)
    have HI3 := Nu.hid (strs_of_row hrow)
    have HST3 := Nu.hid (HST2.out.later hb3)
    have HKB3 := Nu.hid (HKB.out.later hb3)
    have HB3 := Nu.hid (HB2.out.trans (hb3.mono HB2.out.size))
    have hsG := HB2.out.size
    have hstG : ∀ x, bo = some x → 0 < n → x.block < w2.heap.size := fun x hx h0 => by
      obtain ⟨z, hz⟩ : ∃ z, xs[0]? = some z := ⟨_, List.getElem?_eq_getElem (by have := HN.out; omega)⟩
      obtain ⟨b, o, e, hc⟩ := HST2.out.strs 0 z hz
      rw [hx] at e
      cases e
      exact block_lt_of_cell hc
    have HSTG := Nu.hid hstG
    obtain ⟨G, hG⟩ : ∃ G, G = w2.heap.size := ⟨_, rfl⟩
    rw [← hG] at HI3 HSTG hsG ⊢
    have HRK := Nu.hid (ranks_any (some ⟨g, 0, none⟩) n n ks w3 HLEN.out (by omega) HKB3.out.at HFEW.out)
    clear hrow hg3 hb3 HST2 HKB HB2 hG hstG
    go_wp2_with (go_at_call 18; refine HRK.out.mono ?_; rintro e w4 ⟨gr, rfl, hgr, hrb, hb4⟩; rw [HLEN.out]; have HRB := Nu.hid hrb; have HST4 := Nu.hid (HST3.out.later hb4); have HI4 := Nu.hid (HI3.out.later hb4); have hgr2 := Nat.lt_of_lt_of_le HI3.out.lt hgr; have HB4 := Nu.hid (HB3.out.trans (hb4.mono HB3.out.size)); clear hrb hb4 hgr; refine Hid.out ?_)
    refine Nu.hid ?_
    clear HRK HST3 HI3 HB3 HKB3
    go_wp2
    go_loopw [32] (fun c wr => ∃ (i : Nat) (S : List ByteArray), i ≤ n ∧ c = .int .i64 i ∧ Bu.Laid ks xs S i ∧ LstS wr bo n cb xs ∧ IntsBlk wr gr (Bu.ranks ks) ∧ StrsBlk wr G S ∧ Below w.heap.size w wr) (fun c _ => n - (intOf c).toNat)
    case atStart => exact ⟨0, _, Nat.zero_le _, rfl, ⟨by rw [HLEN.out]; simp, fun i hi => by omega⟩, HST4.out, HRB.out, HI4.out, HB4.out⟩
    case round =>
      obtain ⟨i, S, hin, rfl, hS, hst, hrb, hiS, hb⟩ := hrel
      have HS := Nu.hid hS
      have HIS := Nu.hid hiS
      have HB := Nu.hid hb
      by_cases hlt : i < n
      · have hk0 : (0 : Int) ≤ (i : Int) := by omega
        have hk1 : (i : Int) < (n : Int) := by omega
        have hra := Bu.ranks_at (ks := ks) (i := i) (by rw [HLEN.out]; exact hlt)
        have hrl := Bu.rk_lt (ks := ks) (i := i) (by rw [HLEN.out]; exact hlt)
        rw [HLEN.out] at hrl
        obtain ⟨x, hx⟩ : ∃ x, xs[i]? = some x := ⟨_, List.getElem?_eq_getElem (by have := HN.out; omega)⟩
        have HSTEP := Nu.hid (hS.step (by rw [HLEN.out]; exact hlt) hx)
        obtain ⟨q, hq⟩ : ∃ q, Bu.rk ks i = q := ⟨_, rfl⟩
        rw [hq] at hra hrl HSTEP
        obtain ⟨y, hy⟩ : ∃ y, S[q]? = some y := ⟨_, List.getElem?_eq_getElem (by rw [hS.len, HLEN.out]; exact hrl)⟩
        obtain ⟨b, o, hbo, c0⟩ := hst.strs i x hx
        have hbG : b ≠ G := by
          have := HSTG.out _ hbo (by omega)
          dsimp only at this
          have := HI4.out
          intro e
          subst e
          omega
        have c1 := hrb.cell hra
        have c2 := hiS.cell hy
        have f2 := hiS.free q
        have HST5 : Hid (LstS (wr.setCell ⟨G, q, none⟩ (.string x)) bo n cb xs) := ⟨hst.len, fun j z hj => by
          obtain ⟨b', o', e', hc⟩ := hst.strs j z hj
          refine ⟨b', o', e', ?_⟩
          rw [hbo] at e'
          cases e'
          rw [← hc]
          simp [World.cell?, heap_setCell_other wr ⟨G, q, none⟩ b _ hbG], hst.some⟩
        have HRB5 := Nu.hid (hrb.other (i := q) (show gr ≠ G by omega) (.string x))
        have HIS5 := Nu.hid (hiS.set q x)
        have HB5 := Nu.hid (hb.setCell (p := ⟨G, q, none⟩) hsG (.string x))
        have q0 : (0 : Int) ≤ (q : Int) := by omega
        have q1 : (q : Int) < (n : Int) := by omega
        subst hbo
        clear hS hst hrb hiS hb hx hra hq hy HSTG
        go_wp2
        go_roundw
        case rel => exact ⟨i + 1, _, by omega, by go_num, HSTEP.out, HST5.out, HRB5.out, HIS5.out, HB5.out⟩
        case measure => simp [intOf]; omega
      · have hd : ¬ ((i : Int) < (n : Int)) := by omega
        obtain rfl : i = n := by omega
        clear hS hst hrb hiS hb
        go_wp2
        go_ret2
        refine ⟨.inr ⟨HF.out, G, S, by rw [HN.out]; rfl, hsG, HIS.out, ⟨HS.out.len, fun j hj => HS.out.put j (by have := HLEN.out; omega)⟩⟩, HB.out⟩
  · have HF := Nu.hid hf
    have HK2 : Hid (Calls Tryd.prog 22 #[.slice bo n cb, .func (.func kf) #[] bs, .int .i64 most] w1 fun e w' => e = .returned (.tuple #[.slice none 0 0, .int .i64 (Bu.fault most ks)]) ∧ Below w1.heap.size w1 w') := HK1.out.mono (by
      rintro e w' ⟨⟨_, h1⟩ | ⟨h1, _⟩, hb⟩
      · exact ⟨h1, hb⟩
      · exact absurd h1 HF.out)
    obtain ⟨q, hq⟩ : ∃ q, Bu.fault most ks = q := ⟨_, rfl⟩
    rw [hq] at HK2 hf
    have j0 : (q != 0) = true := by simp [hf]
    have HQ := Nu.hid hq
    clear HK1 hq
    go_wp2_with (go_at_call 22; refine HK2.out.mono ?_; rintro e w2 ⟨rfl, hb2⟩; have HB2 := Nu.hid (HB1.out.trans (hb2.mono HB1.out.size)); clear hb2; refine Hid.out ?_)
    refine Nu.hid ?_
    go_wp2
    go_ret2
    exact ⟨.inl ⟨HF.out, by rw [HQ.out]; rfl⟩, HB2.out⟩

end Go.Proofs.YtofphdmebjcofaaDoor
