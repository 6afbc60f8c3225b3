/-
  Clone and Sort at items.
-/
import Derived.Test.YtofphdmebjcofaaDoorBuKeysT
import Derived.Lib.SliceRun
namespace Go.Proofs.YtofphdmebjcofaaDoor
open Go.RowKit

/-- A list of the items l, wherever it lies; nil has no room. -/
structure LstT (w : World) (ao : Option Addr) (n ca : Nat) (l : List Item) : Prop where
  len : l.length = n
  items : ItemsAt w ao l
  none : ao = none → n = 0 ∧ ca = 0
theorem LstT.later {w w' : World} {ao : Option Addr} {n ca : Nat} {l : List Item} (h : LstT w ao n ca l) (hb : Below w.heap.size w w') : LstT w' ao n ca l := ⟨h.len, h.items.later hb, h.none⟩

set_option maxRecDepth 100000 in
set_option maxHeartbeats 4000000 in
theorem tclone_any (ao : Option Addr) (n ca : Nat) (l : List Item) (w : World) (h : LstT w ao n ca l) (hn : n ≤ 2000000) :
    Calls Tryd.prog 16 #[.slice ao n ca] w fun e w' => ∃ bo cb, e = .returned (.slice bo n cb) ∧ LstT w' bo n cb l ∧ (∀ x, bo = some x → w.heap.size ≤ x.block) ∧ Below w.heap.size w w' := by
  obtain ⟨i0, hi, hz0, hz1, hz2⟩ := info_parts Tryd.infoItem
  have HR := Nu.hid h
  have hnil := fun w => Lib.run_eql_slice_nil (P := Tryd.prog) w 24 27 ao n ca 0 0 Tryd.underlying24
  rcases ao with _ | y
  · obtain ⟨rfl, rfl⟩ := h.none rfl
    clear h
    go_enter Tryd.func16, Tryd.ntmps16
    go_wp2
    go_ret
    exact ⟨none, 0, rfl, HR.out, (fun x hx => nomatch hx), Below.refl _ _⟩
  have hown0 : Hid ((w.alloc (.cells #[] 27)).ownsRow w.heap.size 27 2 (.slice (some ⟨w.heap.size, 0, none⟩) 0 0) 0 []) := World.ownsRow_made w #[] 0 (Nat.le_refl _) (Nat.zero_le _) rfl
  have HC : Hid (∀ j u, (flatT l)[j]? = some u → (w.alloc (.cells #[] 27)).cell? (y.add j) = some u) := fun j u hj => by
    have hjl := (List.getElem?_eq_some_iff.1 hj).1
    rw [flatT_length] at hjl
    obtain ⟨p, hp⟩ : ∃ p, l[j / 2]? = some p := ⟨_, List.getElem?_eq_getElem (by omega)⟩
    obtain ⟨b, o', e, hc0, hc1⟩ := HR.out.items _ p hp
    obtain ⟨f0, f1⟩ := flatT_at l _ p hp
    cases e
    have ea : ((⟨b, o', none⟩ : Addr).add j) = ⟨b, o' + j, none⟩ := by
      by_cases h0 : j = 0 <;> simp [Addr.add, h0]
    rw [ea]
    rcases Nat.mod_two_eq_zero_or_one j with hm | hm
    · have ej : j / 2 * 2 = j := by omega
      rw [ej] at f0 hc0
      rw [hj] at f0
      cases f0
      exact (World.grownBy_alloc w _ none).cell hc0 (by simp)
    · have ej : j / 2 * 2 + 1 = j := by omega
      rw [ej] at f1
      rw [Nat.add_assoc, ej] at hc1
      rw [hj] at f1
      cases f1
      exact (World.grownBy_alloc w _ none).cell hc1 (by simp)
  have HONE : Hid (∀ u ∈ flatT l, u.oneCell' = true) := flatT_one l
  have HB0 : Hid (Below w.heap.size w (w.alloc (.cells #[] 27))) := (Below.refl _ _).alloc (Nat.le_refl _) _
  have HL : Hid ((flatT l).length = n * 2) := by show _ = _; rw [flatT_length, h.len]
  clear h
  go_enter Tryd.func16, Tryd.ntmps16
  go_wp2_with (at_builtin; refine wpList_append_own _ rfl _ _ 24 rfl w.heap.size 27 i0 (.agg #[.int .i64 0, .string ByteArray.empty]) 2 24 Tryd.underlying24 hi hz0 hz1 hz2 rfl (by decide) _ 0 [] rfl hown0.out y n ca (flatT l) rfl HL.out HC.out HONE.out (by unfold maxLen; omega) (by rw [Nat.zero_add]; omega) (by simp) ?_; refine Hid.out ?_)
  refine Nu.hid ?_
  intro v' w' hown' hg hiff
  have hne : v' ≠ .slice none 0 0 := hiff
  have HB1 : Hid (Below w.heap.size w w') := HB0.out.grown hg (by simp) (fun q hq => by cases hq; exact Nat.le_refl _)
  have HO := Nu.hid hown'
  obtain ⟨gb, c, hv, hgb⟩ : ∃ gb c, v' = .slice (some ⟨gb, 0, none⟩) n c ∧ w.heap.size ≤ gb := by
    rcases hown'.2 with ⟨hnil, _⟩ | ⟨gb, c, cur, e, hgB, _⟩
    · exact absurd hnil hne
    · exact ⟨gb, c, e, hgB⟩
  subst hv
  clear hown' hg hiff hne hown0 HC HB0
  go_wp2
  go_ret
  have ho : OwnT w' w.heap.size (.slice (some ⟨gb, 0, none⟩) n c) l := by
    unfold OwnT
    rw [HR.out.len]
    exact HO.out
  obtain ⟨ao', ca', e', h1, -, -⟩ := ho.form
  cases e'
  exact ⟨_, _, rfl, ⟨HR.out.len, h1, fun e => nomatch e⟩, fun x hx => by cases hx; exact hgb, HB1.out⟩

def SortTPost (most : Int) (ks : List Int) (R K I : Nat) (io : Option Addr) (ic : Nat) (l : List Item) (w : World) (e : Ending) (w' : World) : Prop :=
  ((Bu.fault most ks ≠ 0 ∧ e = .returned (.tuple #[.slice none 0 0, .int .i64 (Bu.fault most ks)])) ∨
   (Bu.fault most ks = 0 ∧ ∃ (g : Nat) (S : List Item), e = .returned (.tuple #[.slice (some ⟨g, 0, none⟩) l.length l.length, .int .i64 0]) ∧ w.heap.size ≤ g ∧ TR w' w.heap.size g l.length l.length (flatT S) ∧ Bu.Sorted ks l S)) ∧ Ask R K I io ic l (Bu.seen most ks) w' ∧ Wrote (fun b => b = R ∨ b = K) w w'

theorem row_same' {w w' : World} {B g n cap : Nat} {xs : List Value} (h : TR w B g n cap xs) (hb : Below w.heap.size w w') : TR w' B g n cap xs := by
  refine ⟨h.1, ?_⟩
  rcases h.2 with h | ⟨g', cap', cur, e1, hgB, hh, hr⟩
  · exact .inl h
  · exact .inr ⟨g', cap', cur, e1, hgB, (hb.block g' (lt_of_block hh)).trans hh, hr⟩
theorem row_lower {w : World} {B B' g n cap : Nat} {xs : List Value} (h : TR w B g n cap xs) (hB : B' ≤ B) : TR w B' g n cap xs := by
  refine ⟨h.1, ?_⟩
  rcases h.2 with h | ⟨g', cap', cur, e1, hgB, hr⟩
  · exact .inl h
  · exact .inr ⟨g', cap', cur, e1, Nat.le_trans hB hgB, hr⟩

theorem made_items (n : Nat) : (madeCells #[.int .i64 0, .string ByteArray.empty] (n * 2)).toList = flatT (List.replicate n ((0 : Int), ByteArray.empty)) := by
  refine List.ext_getElem? fun j => ?_
  by_cases hj : j < n * 2
  · have hp : (List.replicate n ((0 : Int), ByteArray.empty))[j / 2]? = some (0, ByteArray.empty) := by
      rw [List.getElem?_replicate, if_pos (by omega)]
    obtain ⟨f0, f1⟩ := flatT_at _ _ _ hp
    have hl : (madeCells #[.int .i64 0, .string ByteArray.empty] (n * 2)).toList[j]? = some (#[Value.int .i64 0, .string ByteArray.empty][j % 2]!) := by
      simp [madeCells, hj]
    rw [hl]
    rcases Nat.mod_two_eq_zero_or_one j with hm | hm
    · have ej : j / 2 * 2 = j := by omega
      rw [ej] at f0
      rw [f0, hm]
      rfl
    · have ej : j / 2 * 2 + 1 = j := by omega
      rw [ej] at f1
      rw [f1, hm]
      rfl
  · rw [List.getElem?_eq_none (by simp [size_madeCells]; omega), List.getElem?_eq_none (by rw [flatT_length]; simp; omega)]

set_option maxRecDepth 100000 in
set_option maxHeartbeats 8000000 in
theorem sortitem_any (R K I : Nat) (io : Option Addr) (ic : Nat) (l : List Item) (most : Int) (n : Nat) (ks : List Int) (w : World) (hl : n ≤ 1100000) (hA : Ask R K I io ic l 0 w) (hL : LstT w io n ic l) (hks : ks = l.map fun p => p.1) :
    Calls Tryd.prog 6 #[.slice io n ic, .func (.func 7) #[] #[.pointer (some ⟨R, 0, none⟩), .pointer (some ⟨K, 0, none⟩), .pointer (some ⟨I, 0, none⟩)], .int .i64 most] w (SortTPost most ks R K I io ic l w) := by
  obtain ⟨i0, hi, hz0, hz1, hz2⟩ := info_parts Tryd.infoItem
  have HN := Nu.hid hL.len
  have HLEN : Hid (ks.length = n) := by show _ = _; rw [hks, List.length_map, hL.len]
  have HCL := Nu.hid (tclone_any io n ic l w hL (by omega))
  have hRl := lt_of_block hA.right
  have hKl := lt_of_block hA.asked
  have HA := Nu.hid hA
  have HK : Hid (∀ W bo cb, LstT W bo n cb l → (∀ x, bo = some x → w.heap.size ≤ x.block) → Ask R K I io ic l 0 W → Calls Tryd.prog 17 #[.slice bo n cb, .func (.func 7) #[] #[.pointer (some ⟨R, 0, none⟩), .pointer (some ⟨K, 0, none⟩), .pointer (some ⟨I, 0, none⟩)], .int .i64 most] W (KeysTPost most ks R K I io ic l W)) := fun W bo cb h hb ha =>
    keysitem_any R K I io ic l most bo cb n ks W h.len (by omega) ha h.items (fun x hx => by have := hb x hx; omega) hks
  clear hA hL hks
  go_enter Tryd.func6, Tryd.ntmps6
  go_wp2_with (go_at_call 16; refine HCL.out.mono ?_; rintro e w1 ⟨bo, cb, rfl, hst, hbo, hb1⟩; have HST := Nu.hid hst; have HBO := Nu.hid hbo; have HB1 := Nu.hid hb1; clear hst hb1 hbo; refine Hid.out ?_)
  refine Nu.hid ?_
  have HK1 := Nu.hid (HK.out w1 bo cb HST.out HBO.out (HA.out.later HB1.out))
  clear HK HCL
  by_cases hf : Bu.fault most ks = 0
  · have HF := Nu.hid hf
    have HFEW := Nu.hid (fault_few hf).2.2.2
    have HK2 : Hid (Calls Tryd.prog 17 #[.slice bo n cb, .func (.func 7) #[] #[.pointer (some ⟨R, 0, none⟩), .pointer (some ⟨K, 0, none⟩), .pointer (some ⟨I, 0, none⟩)], .int .i64 most] w1 fun e w' => ∃ g : Nat, e = .returned (.tuple #[.slice (some ⟨g, 0, none⟩) n n, .int .i64 0]) ∧ w1.heap.size ≤ g ∧ IntsBlk w' g ks ∧ Ask R K I io ic l (Bu.seen most ks) w' ∧ Wrote (fun b => b = R ∨ b = K) w1 w') := HK1.out.mono (by
      rintro e w' ⟨⟨h1, _⟩ | ⟨_, g, h2, h3, h4⟩, h5, h6⟩
      · exact absurd HF.out h1
      · rw [HLEN.out] at h2
        exact ⟨g, h2, h3, h4, h5, h6⟩)
    clear HK1 hf
    go_wp2_with (go_at_call 17; refine HK2.out.mono ?_; rintro e w2 ⟨g, rfl, hg, hkb, hask, hw⟩; have HKB := Nu.hid hkb; have HASK := Nu.hid hask; have HW := Nu.hid hw; clear hkb hask hw hg; refine Hid.out ?_)
    refine Nu.hid ?_
    have HST2 : Hid (LstT w2 bo n cb l) := ⟨HST.out.len, HST.out.items.same fun x hx hlx => HW.out.block x.block hlx (fun h => by have := HBO.out x hx; omega), HST.out.none⟩
    have HW2 : Hid (Wrote (fun b => b = R ∨ b = K) w w2) := ((Wrote.refl _ w).later HB1.out).trans HW.out
    clear HK2 HST HB1 HW
    go_wp2_with (at_make; refine wpList_make_full _ rfl _ _ 24 rfl w2.heap.size 27 i0 (.agg #[.int .i64 0, .string ByteArray.empty]) 2 Tryd.underlying24 hi hz0 hz1 _ _ _ _ n rfl rfl rfl rfl (by rw [hz2]; omega) (by unfold maxLen; omega) (Nat.le_refl _) ?_; refine Hid.out ?_)
    refine Nu.hid ?_
    intro w3 hrow hg3
    rw [made_items] at hrow
    have hb3 : Below w2.heap.size w2 w3 := (Below.refl _ _).grown hg3 (Nat.le_refl _) (fun j hj => by cases hj)
    have HT3 : Hid (TR w3 w2.heap.size w2.heap.size n n (flatT (List.replicate n ((0 : Int), ByteArray.empty)))) := hrow
    have HST3 := Nu.hid (HST2.out.later hb3)
    have HKB3 := Nu.hid (HKB.out.later hb3)
    have HASK3 := Nu.hid (HASK.out.later hb3)
    have HW3 := Nu.hid (HW2.out.later hb3)
    have hsw2 := HW2.out.size
    have HSTG : Hid (∀ x, bo = some x → 0 < n → x.block < w2.heap.size) := fun x hx h0 => by
      obtain ⟨z, hz⟩ : ∃ z, l[0]? = some z := ⟨_, List.getElem?_eq_getElem (by have := HN.out; omega)⟩
      obtain ⟨b, o, e, hc, _⟩ := HST2.out.items 0 z hz
      rw [hx] at e
      cases e
      exact block_lt_of_cell hc
    obtain ⟨G, hG⟩ : ∃ G, G = w2.heap.size := ⟨_, rfl⟩
    rw [← hG] at HT3 HSTG hsw2 ⊢
    have hGl : G < w3.heap.size := (World.ownsRow.lt HT3.out G rfl).2
    have HRK := Nu.hid (ranks_any (some ⟨g, 0, none⟩) n n ks w3 HLEN.out (by omega) HKB3.out.at HFEW.out)
    have hIl := block_lt_of_cell HA.out.box
    dsimp only at hIl
    clear hrow hg3 hb3 HST2 HKB HW2 hG HASK
    go_wp2_with (go_at_call 18; refine HRK.out.mono ?_; rintro e w4 ⟨gr, rfl, hgr, hrb, hb4⟩; rw [HLEN.out]; have HRB := Nu.hid hrb; have HST4 := Nu.hid (HST3.out.later hb4); have HT4 : Hid (TR w4 G G n n (flatT (List.replicate n ((0 : Int), ByteArray.empty)))) := row_same' HT3.out hb4; have HASK4 := Nu.hid (HASK3.out.later hb4); have HW4 := Nu.hid (HW3.out.later hb4); clear hrb hb4; refine Hid.out ?_)
    refine Nu.hid ?_
    clear HRK HST3 HT3 HW3 HKB3 HASK3
    go_wp2
    go_loopw [32] (fun c wr => ∃ (i : Nat) (S : List Item), i ≤ n ∧ c = .int .i64 i ∧ Bu.Laid ks l S i ∧ LstT wr bo n cb l ∧ IntsBlk wr gr (Bu.ranks ks) ∧ TR wr G G n n (flatT S) ∧ Ask R K I io ic l (Bu.seen most ks) wr ∧ Wrote (fun b => b = R ∨ b = K) w wr) (fun c _ => n - (intOf c).toNat)
    case atStart => exact ⟨0, _, Nat.zero_le _, rfl, ⟨by rw [HLEN.out]; simp, fun i hi => by omega⟩, HST4.out, HRB.out, HT4.out, HASK4.out, HW4.out⟩
    case round =>
      obtain ⟨i, S, hin, rfl, hS, hst, hrb, hT, hask, hw⟩ := hrel
      have HS := Nu.hid hS
      have HT := Nu.hid hT
      have HASK := Nu.hid hask
      have HW := Nu.hid hw
      by_cases hlt : i < n
      · have hk0 : (0 : Int) ≤ (i : Int) := by omega
        have hk1 : (i : Int) < (n : Int) := by omega
        have hra := Bu.ranks_at (ks := ks) (i := i) (by rw [HLEN.out]; exact hlt)
        have hrl := Bu.rk_lt (ks := ks) (i := i) (by rw [HLEN.out]; exact hlt)
        rw [HLEN.out] at hrl
        obtain ⟨x, hx⟩ : ∃ x, l[i]? = some x := ⟨_, List.getElem?_eq_getElem (by have := HN.out; omega)⟩
        have HSTEP := Nu.hid (hS.step (by rw [HLEN.out]; exact hlt) hx)
        obtain ⟨q, hq⟩ : ∃ q, Bu.rk ks i = q := ⟨_, rfl⟩
        rw [hq] at hra hrl HSTEP
        obtain ⟨b, o, hbo, c0, c1⟩ := hst.items i x hx
        have hbG : b ≠ G := by
          have := HSTG.out _ hbo (by omega)
          dsimp only at this
          omega
        have c2 := hrb.cell hra
        obtain ⟨hT2, ⟨u0, d0⟩, ⟨u1, d1⟩, f0, f1⟩ := hT.pair (j := q) (by rw [hS.len, HLEN.out]; exact hrl) x
        obtain ⟨x1, x2⟩ := x
        dsimp only at c0 c1 hT2 d1 f1 HSTEP
        have hoth : ∀ k', k' ≠ G → ((wr.setCell ⟨G, q * 2, none⟩ (.int .i64 x1)).setCell ⟨G, q * 2 + 1, none⟩ (.string x2)).heap[k']? = wr.heap[k']? := fun k' h2 => (heap_setCell_other _ ⟨G, q * 2 + 1, none⟩ k' _ h2).trans (heap_setCell_other _ ⟨G, q * 2, none⟩ k' _ h2)
        have HST5 : Hid (LstT ((wr.setCell ⟨G, q * 2, none⟩ (.int .i64 x1)).setCell ⟨G, q * 2 + 1, none⟩ (.string x2)) bo n cb l) := ⟨hst.len, hst.items.same fun y hy _ => hoth _ (by rw [hbo] at hy; cases hy; exact hbG), hst.none⟩
        have hgrG : gr ≠ G := by
          have h1 := hGl
          omega
        have HRB5 : Hid (IntsBlk ((wr.setCell ⟨G, q * 2, none⟩ (.int .i64 x1)).setCell ⟨G, q * 2 + 1, none⟩ (.string x2)) gr (Bu.ranks ks)) := (hoth gr hgrG).trans hrb
        have HT5 := Nu.hid hT2
        have hAI := HA.out.items
        have HASK5 : Hid (Ask R K I io ic l (Bu.seen most ks) ((wr.setCell ⟨G, q * 2, none⟩ (.int .i64 x1)).setCell ⟨G, q * 2 + 1, none⟩ (.string x2))) := by
          refine ⟨(hoth R (by omega)).trans hask.right, (hoth K (by omega)).trans hask.asked, ?_, ?_, hask.far, hask.apart⟩
          · rw [← hask.box]
            simp only [World.cell?]
            rw [hoth I (by omega)]
          · exact hAI.same fun y hy hly => by
              rw [hoth y.block (by omega)]
              exact hw.block y.block hly (fun h' => by
                have := hask.apart y hy
                rcases h' with h' | h'
                · exact this.1 h'
                · exact this.2 h')
        have HW5 : Hid (Wrote (fun b => b = R ∨ b = K) w ((wr.setCell ⟨G, q * 2, none⟩ (.int .i64 x1)).setCell ⟨G, q * 2 + 1, none⟩ (.string x2))) :=
          ⟨hw.os, hw.tape, hw.output, by simpa using hw.size, fun k hk hn => (hoth k (by omega)).trans (hw.block k hk hn)⟩
        have q0 : (0 : Int) ≤ (q : Int) := by omega
        have q1 : (q : Int) < (n : Int) := by omega
        subst hbo
        clear hS hst hrb hT hask hw hx hra hq HSTG hT2 hoth hAI
        go_wp2
        go_roundw
        case rel => exact ⟨i + 1, _, by omega, by go_num, HSTEP.out, HST5.out, HRB5.out, HT5.out, HASK5.out, HW5.out⟩
        case measure => simp [intOf]; omega
      · have hd : ¬ ((i : Int) < (n : Int)) := by omega
        obtain rfl : i = n := by omega
        clear hS hst hrb hT hask hw
        go_wp2
        go_ret2
        refine ⟨.inr ⟨HF.out, G, S, by rw [HN.out]; rfl, hsw2, ?_, ⟨HS.out.len, fun j hj => HS.out.put j (by have := HLEN.out; omega)⟩⟩, HASK.out, HW.out⟩
        rw [HN.out]
        exact row_lower HT.out hsw2
  · have HF := Nu.hid hf
    have HK2 : Hid (Calls Tryd.prog 17 #[.slice bo n cb, .func (.func 7) #[] #[.pointer (some ⟨R, 0, none⟩), .pointer (some ⟨K, 0, none⟩), .pointer (some ⟨I, 0, none⟩)], .int .i64 most] w1 fun e w' => e = .returned (.tuple #[.slice none 0 0, .int .i64 (Bu.fault most ks)]) ∧ Ask R K I io ic l (Bu.seen most ks) w' ∧ Wrote (fun b => b = R ∨ b = K) w1 w') := HK1.out.mono (by
      rintro e w' ⟨⟨_, h1⟩ | ⟨h1, _⟩, h5, h6⟩
      · exact ⟨h1, h5, h6⟩
      · exact absurd h1 HF.out)
    obtain ⟨q, hq⟩ : ∃ q, Bu.fault most ks = q := ⟨_, rfl⟩
    rw [hq] at HK2 hf
    have j0 : (q != 0) = true := by simp [hf]
    have HQ := Nu.hid hq
    clear HK1 hq
    go_wp2_with (go_at_call 17; refine HK2.out.mono ?_; rintro e w2 ⟨rfl, hask, hw⟩; have HASK := Nu.hid hask; have HW2 := Nu.hid (((Wrote.refl _ w).later HB1.out).trans hw); clear hask hw; refine Hid.out ?_)
    refine Nu.hid ?_
    go_wp2
    go_ret2
    exact ⟨.inl ⟨HF.out, by rw [HQ.out]; rfl⟩, HASK.out, HW2.out⟩

end Go.Proofs.YtofphdmebjcofaaDoor
