/-
  The document's cycle and Chain of layer 15.
-/
import Derived.Test.YtdhaaodalchpkaaKuJ
namespace Go.Proofs.Ytdhaaodalchpkaa
open Go.RowKit Go.Sort

namespace Ku
/-- Turned to begin at place k, and closed. -/
def turnI (l : List Int) (L k i : Nat) : List Int := (List.range i).map fun t => gI l ((k + t) % L)
theorem turnI_succ (l : List Int) (L k i : Nat) : turnI l L k (i + 1) = turnI l L k i ++ [gI l ((k + i) % L)] := by
  unfold turnI
  rw [List.range_succ, List.map_append]
  rfl
theorem turnI_length (l : List Int) (L k i : Nat) : (turnI l L k i).length = i := by simp [turnI]
end Ku

/-- What cycle answers. -/
def Ku.CycPost (l : List Int) (L : Nat) (w : World) (e : Ending) (w' : World) : Prop :=
  ∃ (k : Nat) (v : Value), k < L ∧ (∀ i, i < L → Ku.gI l k ≤ Ku.gI l i) ∧ e = .returned v ∧ OwnZ w' w.heap.size v (Ku.writtenI (Ku.turnI l L k L ++ [Ku.gI l k])) ∧ Below w.heap.size w w'

set_option maxRecDepth 100000 in
set_option maxHeartbeats 4000000 in
theorem kcycle_any (ao : Option Addr) (q c L : Nat) (l : List Int) (w : World) (hq : l.length = q) (h : IntsAt w ao l) (hL : q = L + 1) (h1 : 1 ≤ L) (hc : q ≤ c) (hl : q ≤ 8388610) :
    Calls Try.prog 47 #[.slice ao q c] w (Ku.CycPost l L w) := by
  have hw1 : IntKind.i64.wrap ((q : Int) - 1) = (L : Int) := by rw [IntKind.wrap_i64]; omega
  have i0 : (0 : Int) ≤ (L : Int) := by omega
  have i1 : (L : Int) ≤ (q : Int) := by omega
  have i2 : (q : Int) ≤ (c : Int) := by omega
  have i3 : (L : Int) ≤ (c : Int) := by omega
  have HL := Nu.hid h
  have HQ := Nu.hid hq
  have HLQ := Nu.hid hL
  have hat : IntsAt w ao (l.take L) := fun j x hj => by
    have hjl := (List.getElem?_eq_some_iff.1 hj).1
    rw [List.getElem?_take, if_pos (by simp at hjl; omega)] at hj
    exact h j x hj
  have HLE := Nu.hid (kleast_any ao L c (l.take L) w (by rw [List.length_take]; omega) hat (by omega) (by omega))
  have HGT : Hid (∀ i, i < L → (l.take L).getD i 0 = Ku.gI l i) := fun i hi => by
    unfold Ku.gI
    rw [List.getD_eq_getElem?_getD, List.getD_eq_getElem?_getD, List.getElem?_take, if_pos hi]
  have HAT : Hid (∀ i, i < L → l[i]? = some (Ku.gI l i)) := fun i hi => by
    unfold Ku.gI
    rw [List.getD_eq_getElem?_getD, List.getElem?_eq_getElem (by omega)]
    rfl
  clear h hq hat hL
  go_enter Try.func47, Try.ntmps47
  go_wp2_with (go_at_call 63; refine HLE.out.mono ?_; rintro e w1 ⟨k, rfl, hk, hmin, hb1⟩; refine Hid.out ?_)
  refine Nu.hid ?_
  have HMIN : Hid (∀ i, i < L → Ku.gI l k ≤ Ku.gI l i) := fun i hi => by
    have := hmin i hi
    rw [HGT.out k hk, HGT.out i hi] at this
    exact this
  have HB1 := Nu.hid hb1
  clear hmin hb1 HLE
  go_wp2
  go_loopw [5, 6] (fun v cv wr => ∃ (i : Nat), i ≤ L ∧ cv = .int .i64 (i : Int) ∧ OwnZ wr w.heap.size v (Ku.turnI l L k i) ∧ Below w.heap.size w wr) (fun _ cv _ => L - (intOf cv).toNat)
  case atStart => exact ⟨0, Nat.zero_le _, rfl, OwnZ.nil _ _, HB1.out⟩
  case round =>
    obtain ⟨i, hi, rfl, hown, hb⟩ := hrel
    have HOWN := Nu.hid hown
    have HB := Nu.hid hb
    have hs0 := hb.size
    have hwi : IntKind.i64.wrap ((i : Int) + 1) = (i : Int) + 1 := by rw [IntKind.wrap_i64]; omega
    by_cases hlt : i < L
    · have hlti : (i : Int) < (L : Int) := by omega
      obtain ⟨u, hu⟩ : ∃ u, u = (k + i) % L := ⟨_, rfl⟩
      have hul : u < L := by rw [hu]; exact Nat.mod_lt _ (by omega)
      obtain ⟨s, hs⟩ : ∃ s : Nat, (k : Int) + (i : Int) = (s : Int) := ⟨k + i, by omega⟩
      have hwks : IntKind.i64.wrap (s : Int) = (s : Int) := by rw [IntKind.wrap_i64]; omega
      have hrem : (s : Int).tmod (L : Int) = (u : Int) := by
        rw [Int.tmod_eq_emod_of_nonneg (by omega), hu, show k + i = s by omega]
        exact (Int.natCast_emod s L).symm
      have u0 : (0 : Int) ≤ (u : Int) := by omega
      have u1 : (u : Int) < (L : Int) := by omega
      have hLne : ((L : Int) == 0) = false := by simp; omega
      have hLne2 : (L : Int) ≠ 0 := by omega
      obtain ⟨b, o, rfl, d0⟩ := (HL.out.later hb) u _ (HAT.out u hul)
      have HU := Nu.hid hu
      have hll : (Ku.turnI l L k i).length ≤ 17592186044000 := by rw [Ku.turnI_length]; omega
      clear hown hb hu
      go_wp2_with (at_builtin; refine wpList_push rfl _ _ rfl _ w.heap.size _ _ (Ku.gI l u) HOWN.out hs0 hll rfl rfl ?_; refine Hid.out ?_)
      refine Nu.hid ?_
      intro v' w3 hrow3 _ _ hb3
      have HROW3 := Nu.hid hrow3
      have HB3 := Nu.hid (HB.out.trans hb3)
      clear hrow3 hb3
      go_wp2
      go_roundw
      case rel => exact ⟨i + 1, by omega, by go_num, by rw [Ku.turnI_succ, ← HU.out]; exact HROW3.out, HB3.out⟩
      case measure => simp [intOf]; omega
    · have hd : ¬ ((i : Int) < (L : Int)) := by omega
      obtain rfl : i = L := by omega
      have k0 : (0 : Int) ≤ (k : Int) := by omega
      have k1 : (k : Int) < (i : Int) := by omega
      obtain ⟨b, o, rfl, d0⟩ := (HL.out.later hb) k _ (HAT.out k hk)
      have hll : (Ku.turnI l i k i).length ≤ 17592186044000 := by rw [Ku.turnI_length]; omega
      clear hown hb
      go_wp2_with (at_builtin; refine wpList_push rfl _ _ rfl _ w.heap.size _ _ (Ku.gI l k) HOWN.out hs0 hll rfl rfl ?_; refine Hid.out ?_)
      refine Nu.hid ?_
      intro v' w3 hrow3 _ _ hb3
      have hlen : (Ku.turnI l i k i ++ [Ku.gI l k]).length = q := by rw [List.length_append, Ku.turnI_length]; have := HLQ.out; simp; omega
      obtain ⟨xa, xc, hve, -, -⟩ := hrow3.form
      rw [hlen] at hve
      subst hve
      have hs3 : w.heap.size ≤ w3.heap.size := by have := hb3.size; omega
      have HWR := Nu.hid (kwritten_any w.heap.size xa q xc _ w3 hlen hrow3 hs3 (by have := HLQ.out; omega) (by omega))
      have HB3 := Nu.hid (HB.out.trans hb3)
      clear hrow3 hb3 hlen
      go_wp2_with (go_at_call 49; refine HWR.out.mono ?_; rintro e w4 ⟨v, rfl, ho, hb4⟩; refine Hid.out ?_)
      refine Nu.hid ?_
      have HO := Nu.hid ho
      have HB4 := Nu.hid (HB3.out.trans (hb4.mono HB3.out.size))
      clear ho hb4
      go_wp2
      go_ret
      exact ⟨k, _, hk, HMIN.out, rfl, HO.out, HB4.out⟩

end Go.Proofs.Ytdhaaodalchpkaa
