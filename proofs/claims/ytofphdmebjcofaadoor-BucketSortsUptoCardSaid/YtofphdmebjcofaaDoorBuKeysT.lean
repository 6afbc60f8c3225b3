/-
  keysOf at items, asked by BucketSorts' own key.
-/
import Derived.Test.YtofphdmebjcofaaDoorBuAsk
import Derived.Test.YtofphdmebjcofaaDoorBuRef
namespace Go.Proofs.YtofphdmebjcofaaDoor
open Go.RowKit

theorem ask_enters : ∀ (args : Array Value) (w : World), (callFunc 7 args).run Tryd.prog w = .ok (.enter 7 args) w := enters_of Tryd.func7 (by kernel_rfl) rfl

def KeysTPost (most : Int) (ks : List Int) (R K I : Nat) (io : Option Addr) (ic : Nat) (l : List Item) (w : World) (e : Ending) (w' : World) : Prop :=
  ((Bu.fault most ks ≠ 0 ∧ e = .returned (.tuple #[.slice none 0 0, .int .i64 (Bu.fault most ks)])) ∨
   (Bu.fault most ks = 0 ∧ ∃ g : Nat, e = .returned (.tuple #[.slice (some ⟨g, 0, none⟩) ks.length ks.length, .int .i64 0]) ∧ w.heap.size ≤ g ∧ IntsBlk w' g ks)) ∧ Ask R K I io ic l (Bu.seen most ks) w' ∧ Wrote (fun b => b = R ∨ b = K) w w'

set_option maxRecDepth 100000 in
set_option maxHeartbeats 8000000 in
theorem keysitem_any (R K I : Nat) (io : Option Addr) (ic : Nat) (l : List Item) (most : Int) (bo : Option Addr) (cb n : Nat) (ks : List Int) (w : World) (hn : l.length = n) (hl : n ≤ 2000000) (hA : Ask R K I io ic l 0 w) (hs : ItemsAt w bo l) (hfar : ∀ x, bo = some x → x.block ≠ R ∧ x.block ≠ K) (hks : ks = l.map fun p => p.1) :
    Calls Tryd.prog 17 #[.slice bo n cb, .func (.func 7) #[] #[.pointer (some ⟨R, 0, none⟩), .pointer (some ⟨K, 0, none⟩), .pointer (some ⟨I, 0, none⟩)], .int .i64 most] w (KeysTPost most ks R K I io ic l w) := by
  obtain ⟨i0, hi, hz0, hz1, hz2⟩ := info_parts Tryd.infoNum
  have HA := Nu.hid hA
  have HS := Nu.hid hs
  have HN := Nu.hid hn
  have HFAR := Nu.hid hfar
  have HKS := Nu.hid hks
  have hRl := lt_of_block hA.right
  have hKl := lt_of_block hA.asked
  have hnil := fun w => run_eql_func_nil (P := Tryd.prog) w 31 7 #[.pointer (some ⟨R, 0, none⟩), .pointer (some ⟨K, 0, none⟩), .pointer (some ⟨I, 0, none⟩)] Tryd.underlying31
  have HLEN : Hid (ks.length = n) := by show _ = _; rw [hks, List.length_map, hn]
  clear hA hs hn hfar hks
  by_cases h1 : most < 0
  · have HF : Hid (Bu.fault most ks = 2) := Bu.fault_two (.inl h1)
    have HSE : Hid (Bu.seen most ks = 0) := if_pos (.inl h1)
    go_enter Tryd.func17, Tryd.ntmps17
    go_wp2
    go_ret2
    exact ⟨.inl ⟨by rw [HF.out]; decide, by rw [HF.out]; rfl⟩, by rw [HSE.out]; exact HA.out, Wrote.refl _ _⟩
  by_cases h2 : 4194304 < most
  · have HF : Hid (Bu.fault most ks = 2) := Bu.fault_two (.inr h2)
    have HSE : Hid (Bu.seen most ks = 0) := if_pos (.inr h2)
    go_enter Tryd.func17, Tryd.ntmps17
    go_wp2
    go_ret2
    exact ⟨.inl ⟨by rw [HF.out]; decide, by rw [HF.out]; rfl⟩, by rw [HSE.out]; exact HA.out, Wrote.refl _ _⟩
  have HR12 : Hid (¬ (most < 0 ∨ 4194304 < most)) := by show ¬ _; omega
  go_enter Tryd.func17, Tryd.ntmps17
  go_wp2_with (at_make; refine wpList_make_full _ rfl _ _ 22 rfl w.heap.size 3 i0 (.int .i64 0) 1 Tryd.underlying22 hi hz0 hz1 _ _ _ _ n rfl rfl rfl rfl (by rw [hz2]; omega) (by unfold maxLen; omega) (Nat.le_refl _) ?_; refine Hid.out ?_)
  refine Nu.hid ?_
  intro w2 hrow hg2
  rw [made_zeros] at hrow
  have HI2 := Nu.hid (ints_of_row hrow)
  have hb2 : Below w.heap.size w w2 := (Below.refl _ _).grown hg2 (Nat.le_refl _) (fun j hj => by cases hj)
  have HA2 := Nu.hid (HA.out.later hb2)
  have HS2 := Nu.hid (HS.out.later hb2)
  have HW2 : Hid (Wrote (fun b => b = R ∨ b = K) w w2) := (Wrote.refl _ _).later hb2
  clear hrow hg2 hb2
  go_wp2
  go_loopw [27] (fun c wr => ∃ (i : Nat) (L : List Int), i ≤ n ∧ c = .int .i64 i ∧ L.length = n ∧ (∀ j, j < i → L[j]? = ks[j]?) ∧ (ks.take i).any (Bu.bad most) = false ∧ IntsBlk wr w.heap.size L ∧ Ask R K I io ic l i wr ∧ ItemsAt wr bo l ∧ Wrote (fun b => b = R ∨ b = K) w wr) (fun c _ => n - (intOf c).toNat)
  case atStart => exact ⟨0, _, Nat.zero_le _, rfl, by simp, fun j hj => by omega, by simp, HI2.out, HA2.out, HS2.out, HW2.out⟩
  case round =>
    obtain ⟨i, L, hin, rfl, hRl', hR, hany, hiR, hask, hit, hw⟩ := hrel
    have HR := Nu.hid hR
    have HIR := Nu.hid hiR
    have HASK := Nu.hid hask
    have HW := Nu.hid hw
    have HANY := Nu.hid hany
    have hszw := hw.size
    by_cases hlt : i < n
    · have hk0 : (0 : Int) ≤ (i : Int) := by omega
      have hk1 : (i : Int) < (n : Int) := by omega
      obtain ⟨p, hx⟩ : ∃ p, l[i]? = some p := ⟨_, List.getElem?_eq_getElem (by have := HN.out; omega)⟩
      have hkx : ks[i]? = some p.1 := by rw [HKS.out, List.getElem?_map, hx]; rfl
      obtain ⟨b, o, hbo, c0, c1⟩ := hit i p hx
      have hbl := block_lt_of_cell c0
      obtain ⟨y, hy⟩ : ∃ y, L[i]? = some y := ⟨_, List.getElem?_eq_getElem (by omega)⟩
      have hbx : Below wr.heap.size wr (wr.alloc (.cells #[.int .i64 p.1, .string p.2] 27)) := (Below.refl _ _).alloc (Nat.le_refl _) _
      have hcall := ask_any R K I io ic l i p _ (hask.later hbx) hx (by rw [HN.out]; exact hl)
      have HBX := Nu.hid hbx
      have HIT := Nu.hid hit
      obtain ⟨z, s⟩ := p
      dsimp only at c0 c1 hkx hcall HBX
      have HC := Nu.hid hcall
      have HKX := Nu.hid hkx
      have HY := Nu.hid hy
      subst hbo
      clear hR hiR hany hask hit hw hx hkx hy hbx hcall
      go_wp2_with (go_at_call 7; refine HC.out.mono ?_; rintro e w3 ⟨rfl, hask3, hw3⟩; refine Hid.out ?_)
      refine Nu.hid ?_
      have HASK3 := Nu.hid hask3
      have HW3 : Hid (Wrote (fun b => b = R ∨ b = K) w w3) := (HW.out.alloc _).trans hw3
      have hiR3 : IntsBlk w3 w.heap.size L := by
        have h1 := HIR.out.later HBX.out
        exact (hw3.block w.heap.size h1.lt (by omega)).trans h1
      have HIT3 : Hid (ItemsAt w3 (some ⟨b, o, none⟩) l) := (HIT.out.later HBX.out).same fun x hx hlx => hw3.block x.block hlx (fun h => by
        have := HFAR.out x hx
        rcases h with h | h
        · exact this.1 h
        · exact this.2 h)
      clear hask3 hw3 HC HBX
      by_cases q : z < 0 ∨ most < z
      · have hbd := Bu.any_of HKX.out (Bu.bad_yes q)
        have HF : Hid (Bu.fault most ks = 60) := Bu.fault_key HR12.out hbd
        have HSE : Hid (Bu.seen most ks = i + 1) := by
          show _ = _
          unfold Bu.seen
          rw [if_neg HR12.out, if_pos hbd, Bu.firstBad_at HKX.out HANY.out (Bu.bad_yes q)]
        clear hiR3 hbd
        by_cases q1 : z < 0
        · go_wp2
          go_ret2
          exact ⟨.inl ⟨by rw [HF.out]; decide, by rw [HF.out]; rfl⟩, by rw [HSE.out]; exact HASK3.out, HW3.out⟩
        · have q2 : most < z := by omega
          go_wp2
          go_ret2
          exact ⟨.inl ⟨by rw [HF.out]; decide, by rw [HF.out]; rfl⟩, by rw [HSE.out]; exact HASK3.out, HW3.out⟩
      have q1 : ¬ z < 0 := by omega
      have q2 : ¬ most < z := by omega
      have c2 := hiR3.cell HY.out
      have f2 := hiR3.free i
      have HNEXT := Nu.hid (Bu.any_take_succ HKX.out HANY.out (Bu.bad_no q))
      have HR3 := Nu.hid (hiR3.set i z)
      have hbst : Below w3.heap.size w3 w3 := Below.refl _ _
      have hGR : w.heap.size ≠ R := by omega
      have hGK : w.heap.size ≠ K := by omega
      have HASK4 : Hid (Ask R K I io ic l (i + 1) (w3.setCell ⟨w.heap.size, i, none⟩ (.int .i64 z))) := by
        have h := HASK3.out
        have hoth : ∀ k', k' ≠ w.heap.size → (w3.setCell ⟨w.heap.size, i, none⟩ (.int .i64 z)).heap[k']? = w3.heap[k']? := fun k' h2 => heap_setCell_other w3 ⟨w.heap.size, i, none⟩ k' _ h2
        refine ⟨(hoth R (Ne.symm hGR)).trans h.right, (hoth K (Ne.symm hGK)).trans h.asked, ?_, ?_, h.far, h.apart⟩
        · rw [← h.box]
          simp only [World.cell?]
          rw [hoth I (by have := block_lt_of_cell HA.out.box; dsimp only at this; omega)]
        · exact HA.out.items.same fun x hx hlx => by
            rw [hoth x.block (by omega)]
            exact HW3.out.block x.block hlx (fun h' => by
              have := h.apart x hx
              rcases h' with h' | h'
              · exact this.1 h'
              · exact this.2 h')
      have HIT4 : Hid (ItemsAt (w3.setCell ⟨w.heap.size, i, none⟩ (.int .i64 z)) (some ⟨b, o, none⟩) l) := HS.out.same fun x hx hlx => by
        rw [heap_setCell_other w3 ⟨w.heap.size, i, none⟩ x.block _ (by show x.block ≠ w.heap.size; omega)]
        exact HW3.out.block x.block hlx (fun h' => by
          have := HFAR.out x hx
          rcases h' with h' | h'
          · exact this.1 h'
          · exact this.2 h')
      have HW4 : Hid (Wrote (fun b => b = R ∨ b = K) w (w3.setCell ⟨w.heap.size, i, none⟩ (.int .i64 z))) :=
        ⟨HW3.out.os, HW3.out.tape, HW3.out.output, by simpa using HW3.out.size, fun k hk hn => (heap_setCell_other w3 ⟨w.heap.size, i, none⟩ k _ (by show k ≠ w.heap.size; omega)).trans (HW3.out.block k hk hn)⟩
      have HR2 := Nu.hid (take_set_succ (by rw [hRl', HLEN.out]) HR.out HKX.out)
      have HRL : Hid ((L.set i z).length = n) := by show _ = _; simp [hRl']
      clear hiR3 hbst
      go_wp2
      go_roundw
      case rel => exact ⟨i + 1, _, by omega, by go_num, HRL.out, HR2.out, HNEXT.out, HR3.out, HASK4.out, HIT4.out, HW4.out⟩
      case measure => simp [intOf]; omega
    · have hd : ¬ ((i : Int) < (n : Int)) := by omega
      obtain rfl : i = n := by omega
      clear hR hiR hany hask hit hw
      go_wp2
      go_ret2
      have hks : ks.take i = ks := List.take_of_length_le (by have := HLEN.out; omega)
      have e : L = ks := List.ext_getElem? fun j => by
        by_cases hj : j < i
        · exact HR.out j hj
        · rw [List.getElem?_eq_none (by omega), List.getElem?_eq_none (by have := HLEN.out; omega)]
      have hany := HANY.out
      rw [hks] at hany
      have hse : Bu.seen most ks = i := by
        unfold Bu.seen
        rw [if_neg HR12.out, hany]
        exact HLEN.out
      refine ⟨.inr ⟨Bu.fault_none HR12.out hany, w.heap.size, ?_, Nat.le_refl _, ?_⟩, by rw [hse]; exact HASK.out, HW.out⟩
      · rw [HLEN.out]; rfl
      · rw [← e]; exact HIR.out

end Go.Proofs.YtofphdmebjcofaaDoor
