/-
  Layer 15, the program: Chains, branching, haveDegree.
-/
import Derived.Test.YtdhaaodalchpkaaKvD
import Derived.Test.YtdhaaodalchpkaaKuO
namespace Go.Proofs.Ytdhaaodalchpkaa
open Go.RowKit Go.Sort

set_option maxRecDepth 100000 in
set_option maxHeartbeats 4000000 in
theorem pchains_any (n : Int) (ao : Option Addr) (cap : Nat) (es : List (Int × Int)) (w : World) (he : EdgesAt w ao es) (hl : es.length ≤ 4611686018427387904) :
    Calls Try.prog 9 #[.agg #[.int .i64 n, .slice ao es.length cap]] w (Ku.ChainsP n es w) := by
  obtain ⟨W, hW⟩ : ∃ W, W = w.alloc (.cells #[.int .i64 n, .slice ao es.length cap] 24) := ⟨_, rfl⟩
  have hB0 : Below w.heap.size w W := by rw [hW]; exact (Below.refl _ _).alloc (Nat.le_refl _) _
  have g1 : W.heap[w.heap.size]? = some (.cells #[.int .i64 n, .slice ao es.length cap] 24 (0, 0)) := by rw [hW]; exact heap_alloc_new w _
  have HNEW := Nu.hid (cnew_any n ao cap es W (he.later hB0) hl)
  unfold graphVal at HNEW
  have HB0 := Nu.hid hB0
  have HW := Nu.hid hW
  obtain ⟨q0, q1, -⟩ := pair_cells g1
  rw [hW] at q0 q1
  clear he hB0 g1 hW
  go_enter Try.func9, Try.ntmps9
  go_wp2_with (go_at_call 24; rw [← HW.out]; refine HNEW.out.mono ?_; refine Hid.out ?_)
  refine Nu.hid ?_
  rintro e w1 ⟨hcase, hb1⟩
  have HB1 := Nu.hid (HB0.out.trans (hb1.mono HB0.out.size))
  clear q0 q1
  rcases hcase with ⟨m, p, rfl, hval, rfl, hadj⟩ | ⟨hv, rfl⟩
  · have HV := Nu.hid hval
    have HCH := Nu.hid (vchains_any p m es w1 (.inr ⟨_, p, rfl, hval, hadj⟩) hval)
    have hs := HB1.out.size
    clear hadj hb1
    go_wp2_with (go_at_call 25; refine HCH.out.mono ?_; refine Hid.out ?_)
    refine Nu.hid ?_
    rintro e w2 ⟨v, us, rfl, hr, hb2⟩
    have HR := Nu.hid hr
    have HB2 := Nu.hid (HB1.out.trans (hb2.mono HB1.out.size))
    clear hr hb2
    go_wp2
    go_ret2
    exact ⟨.inr ⟨HV.out, v, us, rfl, HR.out.lower (by omega)⟩, HB2.out⟩
  · have HV := Nu.hid hv
    clear hv hb1
    go_wp2
    go_ret2
    exact ⟨.inl ⟨HV.out, rfl⟩, HB1.out⟩

namespace Ku
/-- The vertices below k that have edges, but not two. -/
def brs (es : List (Int × Int)) : Nat → List Nat
  | 0 => []
  | k + 1 => if dg es k ≠ 0 ∧ dg es k ≠ 2 then brs es k ++ [k] else brs es k
theorem brs_yes {es : List (Int × Int)} {k : Nat} (h : dg es k ≠ 0 ∧ dg es k ≠ 2) : brs es (k + 1) = brs es k ++ [k] := if_pos h
theorem brs_no {es : List (Int × Int)} {k : Nat} (h : ¬ (dg es k ≠ 0 ∧ dg es k ≠ 2)) : brs es (k + 1) = brs es k := if_neg h
theorem brs_length (es : List (Int × Int)) (k : Nat) : (brs es k).length ≤ k := by
  induction k with
  | zero => simp [brs]
  | succ k ih =>
    unfold brs
    split
    · simp; omega
    · omega
def BrsP (es : List (Int × Int)) (n : Nat) (w : World) (e : Ending) (w' : World) : Prop := ∃ v, e = .returned v ∧ OwnZ w' w.heap.size v (ZL (brs es n)) ∧ Below w.heap.size w w'
end Ku

set_option maxRecDepth 100000 in
set_option maxHeartbeats 4000000 in
theorem vbranching_any (p n : Nat) (es : List (Int × Int)) (w : World) (hA : IsAdj w (.pointer (some ⟨p, 0, none⟩)) n es) (hv : Si.Val (n : Int) es) :
    Calls Try.prog 28 #[.pointer (some ⟨p, 0, none⟩)] w (Ku.BrsP es n w) := by
  have hn : n ≤ 1048576 := by have := hv.hi; omega
  have HN := Nu.hid (aN_any _ n es w hA)
  have HD : Hid (∀ (v : Nat) (U : World), v < n → Below w.heap.size w U → Calls Try.prog 51 #[.pointer (some ⟨p, 0, none⟩), .int .i64 (v : Int)] U fun e w' => e = .returned (.int .i64 (Ku.dg es v : Int)) ∧ w' = U) := fun v U hv' hU => by
    have := degree_any _ n es (v : Int) U (hA.later hU)
    rw [Ku.deg_in hv'] at this
    exact this
  clear hA hv
  go_enter Try.func28, Try.ntmps28
  go_wp2_with (go_at_call 50; refine HN.out.mono ?_; rintro e w1 ⟨rfl, hw1⟩; obtain rfl := hw1.symm; refine Hid.out ?_)
  refine Nu.hid ?_
  go_wp2
  go_loopw [3, 8] (fun v cv wr => ∃ k : Nat, k ≤ n ∧ cv = .int .i64 (k : Int) ∧ OwnZ wr w.heap.size v (Ku.ZL (Ku.brs es k)) ∧ Below w.heap.size w wr) (fun _ cv _ => n - (intOf cv).toNat)
  case atStart => exact ⟨0, Nat.zero_le _, rfl, OwnZ.nil _ _, Below.refl _ _⟩
  case round =>
    obtain ⟨k, hk, rfl, hown, hb⟩ := hrel
    obtain ⟨U, rfl⟩ : ∃ U, U = wr := ⟨wr, rfl⟩
    have HOWN := Nu.hid hown
    have HB := Nu.hid hb
    have hs0 := hb.size
    have hwk : IntKind.i64.wrap ((k : Int) + 1) = (k : Int) + 1 := by rw [IntKind.wrap_i64]; omega
    by_cases hlt : k < n
    · have hlti : (k : Int) < (n : Int) := by omega
      have HDK := Nu.hid (HD.out k U hlt hb)
      obtain ⟨d, hd⟩ : ∃ d, Ku.dg es k = d := ⟨_, rfl⟩
      rw [hd] at HDK
      have HDD := Nu.hid hd
      clear hown hb hd
      go_wp2_with (go_at_call 51; refine HDK.out.mono ?_; rintro e w1 ⟨rfl, hw1⟩; obtain rfl := hw1.symm; refine Hid.out ?_)
      refine Nu.hid ?_
      by_cases hc : d ≠ 0 ∧ d ≠ 2
      · have t1 : ((d : Int) != 0) = true := by simp; omega
        have t2 : ((d : Int) != 2) = true := by simp; omega
        have HNX : Hid (Ku.ZL (Ku.brs es (k + 1)) = Ku.ZL (Ku.brs es k) ++ [(k : Int)]) := by
          refine Nu.hid ?_
          rw [Ku.brs_yes (by rw [HDD.out]; exact hc)]
          simp [Ku.ZL]
        have hll : (Ku.ZL (Ku.brs es k)).length ≤ 17592186044000 := by
          rw [Ku.ZL_length]
          have := Ku.brs_length es k
          omega
        clear hc
        go_wp2_with (at_builtin; refine wpList_push rfl _ _ rfl _ w.heap.size _ _ (k : Int) HOWN.out hs0 hll rfl rfl ?_; refine Hid.out ?_)
        refine Nu.hid ?_
        intro v' w3 hrow3 _ _ hb3
        have HR := Nu.hid hrow3
        have HB3 := Nu.hid (HB.out.trans hb3)
        clear hrow3 hb3
        go_wp2
        go_roundw
        case rel => exact ⟨k + 1, by omega, by go_num, by rw [HNX.out]; exact HR.out, HB3.out⟩
        case measure => simp [intOf]; omega
      · have HNX : Hid (Ku.ZL (Ku.brs es (k + 1)) = Ku.ZL (Ku.brs es k)) := by
          refine Nu.hid ?_
          rw [Ku.brs_no (by rw [HDD.out]; exact hc)]
        by_cases h0 : d = 0
        · have t1 : ((d : Int) != 0) = false := by simp [h0]
          clear hc h0
          go_wp2
          go_roundw
          case rel => exact ⟨k + 1, by omega, by go_num, by rw [HNX.out]; exact HOWN.out, HB.out⟩
          case measure => simp [intOf]; omega
        · have t1 : ((d : Int) != 0) = true := by simp; omega
          have t2 : ((d : Int) != 2) = false := by simp; omega
          clear hc h0
          go_wp2
          go_roundw
          case rel => exact ⟨k + 1, by omega, by go_num, by rw [HNX.out]; exact HOWN.out, HB.out⟩
          case measure => simp [intOf]; omega
    · have hd : ¬ ((k : Int) < (n : Int)) := by omega
      obtain rfl : k = n := by omega
      clear hown hb
      go_wp2
      go_ret
      exact ⟨_, rfl, HOWN.out, HB.out⟩

set_option maxRecDepth 100000 in
set_option maxHeartbeats 4000000 in
theorem vhave_any (p n : Nat) (es : List (Int × Int)) (la : Option Addr) (q lc d : Nat) (L : List Nat) (w : World) (hA : IsAdj w (.pointer (some ⟨p, 0, none⟩)) n es) (hq : L.length = q) (hL : IntsAt w la (Ku.ZL L)) (hb : ∀ v ∈ L, v < n) (hl : q ≤ 17592186044000) (r : Bool) (hr : r = true ↔ ∀ v ∈ L, Ku.dg es v = d) :
    Calls Try.prog 29 #[.pointer (some ⟨p, 0, none⟩), .slice la q lc, .int .i64 (d : Int)] w fun e w' => e = .returned (.bool r) ∧ Below w.heap.size w w' := by
  have HD : Hid (∀ (v : Nat) (U : World), v < n → Below w.heap.size w U → Calls Try.prog 51 #[.pointer (some ⟨p, 0, none⟩), .int .i64 (v : Int)] U fun e w' => e = .returned (.int .i64 (Ku.dg es v : Int)) ∧ w' = U) := fun v U hv' hU => by
    have := degree_any _ n es (v : Int) U (hA.later hU)
    rw [Ku.deg_in hv'] at this
    exact this
  have HL := Nu.hid hL
  have HLB := Nu.hid hb
  have HR := Nu.hid hr
  have HQ := Nu.hid hq
  clear hA hL hb hr hq
  go_enter Try.func29, Try.ntmps29
  go_wp2
  go_loopw [11] (fun cv wr => ∃ k : Nat, k ≤ q ∧ cv = .int .i64 (k : Int) ∧ (∀ (i v : Nat), i < k → L[i]? = some v → Ku.dg es v = d) ∧ wr = w) (fun cv _ => q - (intOf cv).toNat)
  case atStart => exact ⟨0, Nat.zero_le _, rfl, fun i v hi => by omega, rfl⟩
  case round =>
    obtain ⟨k, hk, rfl, hall, hwr⟩ := hrel
    obtain rfl := hwr.symm
    have HALL := Nu.hid hall
    have hwk : IntKind.i64.wrap ((k : Int) + 1) = (k : Int) + 1 := by rw [IntKind.wrap_i64]; omega
    clear hwr hall
    by_cases hlt : k < q
    · have hlti : (k : Int) < (q : Int) := by omega
      have hk0 : (0 : Int) ≤ (k : Int) := by omega
      obtain ⟨v, hv⟩ : ∃ v, L[k]? = some v := ⟨_, List.getElem?_eq_getElem (by rw [HQ.out]; exact hlt)⟩
      have hvz : (Ku.ZL L)[k]? = some (v : Int) := by rw [Ku.ZL_at, hv]; rfl
      obtain ⟨b, o, rfl, d0⟩ := HL.out k _ hvz
      have HDK := Nu.hid (HD.out v w (HLB.out v (List.mem_of_getElem? hv)) (Below.refl _ _))
      obtain ⟨dv, hd⟩ : ∃ dv, Ku.dg es v = dv := ⟨_, rfl⟩
      rw [hd] at HDK
      have HDD := Nu.hid hd
      have HV := Nu.hid hv
      clear hv hvz hd
      by_cases hc : dv = d
      · have t1 : ((dv : Int) != (d : Int)) = false := by simp [hc]
        have HN : Hid (∀ (i v : Nat), i < k + 1 → L[i]? = some v → Ku.dg es v = d) := fun i v' hi hv' => by
          by_cases e : i = k
          · subst e
            rw [HV.out] at hv'
            cases hv'
            rw [HDD.out]
            exact hc
          · exact HALL.out i v' (by omega) hv'
        clear hc
        go_wp2_with (go_at_call 51; refine HDK.out.mono ?_; rintro e w1 ⟨rfl, hw1⟩; obtain rfl := hw1.symm; refine Hid.out ?_)
        refine Nu.hid ?_
        go_wp2
        go_roundw
        case rel => exact ⟨k + 1, by omega, by go_num, HN.out, by first | rfl | trivial⟩
        case measure => simp [intOf]; omega
      · have t1 : ((dv : Int) != (d : Int)) = true := by simp; omega
        have HF : Hid (r = false) := by
          refine Nu.hid ?_
          cases hr : r with
          | false => rfl
          | true => exact absurd (by rw [← HDD.out]; exact HR.out.1 hr v (List.mem_of_getElem? HV.out)) hc
        clear hc
        go_wp2_with (go_at_call 51; refine HDK.out.mono ?_; rintro e w1 ⟨rfl, hw1⟩; obtain rfl := hw1.symm; refine Hid.out ?_)
        refine Nu.hid ?_
        go_wp2
        go_ret
        exact ⟨by rw [HF.out]; rfl, Below.refl _ _⟩
    · have hd : ¬ ((k : Int) < (q : Int)) := by omega
      have HF : Hid (r = true) := HR.out.2 fun v hv => by
        obtain ⟨i, hi⟩ := List.getElem?_of_mem hv
        exact HALL.out i v (by have := (List.getElem?_eq_some_iff.1 hi).1; rw [HQ.out] at this; omega) hi
      go_wp2
      go_ret
      exact ⟨by rw [HF.out]; rfl, Below.refl _ _⟩
end Go.Proofs.Ytdhaaodalchpkaa
