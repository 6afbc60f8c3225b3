import Derived.Test.YtmgoahbloppdmaaGreatMg25
import Derived.Test.YtmgoahbloppdmaaGreatMg23
import Derived.Test.YtmgoahbloppdmaaGreatMg11
import Derived.Shelf.Lays
import Derived.Shelf.Sort.Plain
import Derived.Shelf.Slices.In.SortNone
import Derived.Ground.NamesProg
import Derived.Test.YtmgoahbloppdmaaGreatProg
import Derived.Test.YtmgoahbloppdmaaGreatMg07
import Derived.Sort.OwnSortedInts
/-
  The return edges that have been gathered, sorted; marks of loops over iterators; pure.
-/
namespace Go.Proofs.YtmgoahbloppdmaaGreat
open Go.RowKit

namespace Lo
open Df

/-- Different numbers below m are at most m. -/
theorem few_of {m : Nat} {R : List Int} (hn : R.Nodup) (hr : ∀ y ∈ R, 0 ≤ y ∧ y < (m : Int)) : R.length ≤ m := by
  rcases Nat.lt_or_ge m R.length with h | h
  · exfalso
    have hat : ∀ i, i < m + 1 → ∃ y, R[i]? = some y ∧ 0 ≤ y ∧ y < (m : Int) := fun i hi => ⟨_, List.getElem?_eq_getElem (by omega), hr _ (List.getElem_mem _)⟩
    obtain ⟨i, hi, e⟩ := Bu.pig (m + 1) (fun i => (R.getD i 0).toNat) (fun i hi => by
      obtain ⟨y, hy, h1, h2⟩ := hat i hi
      rw [List.getD_eq_getElem?_getD, hy]
      show y.toNat < m + 1
      omega) (fun i j hi hj e => by
      obtain ⟨y, hy, h1, h2⟩ := hat i hi
      obtain ⟨z, hz, h3, h4⟩ := hat j hj
      rw [List.getD_eq_getElem?_getD, hy, List.getD_eq_getElem?_getD, hz] at e
      have e : y.toNat = z.toNat := e
      have eyz : y = z := by omega
      subst eyz
      have p1 := List.pairwise_iff_getElem.1 hn
      rcases Nat.lt_or_ge i j with hlt | hge
      · have := p1 i j (by omega) (by omega) hlt
        rw [List.getElem?_eq_getElem (by omega)] at hy hz
        exact absurd ((Option.some.inj hy).trans (Option.some.inj hz).symm) this
      · rcases Nat.lt_or_ge j i with hlt | hge2
        · have := p1 j i (by omega) (by omega) hlt
          rw [List.getElem?_eq_getElem (by omega)] at hy hz
          exact absurd ((Option.some.inj hz).trans (Option.some.inj hy).symm) this
        · omega) m (by omega)
    obtain ⟨y, hy, h1, h2⟩ := hat i hi
    rw [List.getD_eq_getElem?_getD, hy] at e
    have e : y.toNat = m := e
    omega
  · exact h

/-- Sorted, they are the numbers in their order. -/
theorem sort_is {R : List Int} {l : List Nat} (hn : R.Nodup) (hl : List.Pairwise (· < ·) l) (hm : ∀ y, y ∈ R ↔ ∃ b ∈ l, y = (b : Int)) : R.mergeSort (fun x y => decide (x ≤ y)) = zs l := by
  have hp : (R.mergeSort (fun x y => decide (x ≤ y))).Perm R := List.mergeSort_perm R _
  have hs : List.Pairwise (fun x y : Int => decide (x ≤ y) = true) (R.mergeSort (fun x y => decide (x ≤ y))) := List.pairwise_mergeSort (fun a b c h1 h2 => by simp at *; omega) (fun a b => by simp; omega) R
  have hnd : (R.mergeSort (fun x y => decide (x ≤ y))).Nodup := hp.nodup_iff.2 hn
  have hlt : List.Pairwise (fun x y : Int => x < y) (R.mergeSort (fun x y => decide (x ≤ y))) := by
    refine (hs.and hnd).imp ?_
    rintro a b ⟨h1, h2⟩
    have := of_decide_eq_true h1
    omega
  refine pairwise_unique (R := fun x y : Int => x < y) (fun x => by omega) (fun x y h => by omega) hlt ?_ fun y => ?_
  · unfold zs
    refine List.pairwise_map.2 (hl.imp ?_)
    intro a b h
    omega
  · rw [hp.mem_iff, hm y]
    unfold zs
    rw [List.mem_map]
    constructor
    · rintro ⟨b, hb, rfl⟩
      exact ⟨b, hb, rfl⟩
    · rintro ⟨b, hb, rfl⟩
      exact ⟨b, hb, rfl⟩

theorem rets_rise (es : List (Int × Int)) (s : St) (e : Nat) : List.Pairwise (· < ·) (rets es s e) := by
  unfold rets
  split
  · exact List.Pairwise.filter _ List.pairwise_lt_range
  · simp

theorem outI_nodup {n : Nat} {es : List (Int × Int)} {v : Nat} (hv : v < n) : (Cs.outZ n es v).Nodup := by
  unfold Cs.outZ
  rw [Cs.outI_in hv]
  refine List.pairwise_map.2 (List.pairwise_iff_getElem.2 fun i j hi hj hij e => ?_)
  have := Cs.out_rises hij (List.getElem?_eq_getElem hi) (List.getElem?_eq_getElem hj)
  omega
theorem frL_nodup {n : Nat} {es : List (Int × Int)} {s : St} {v : Nat} (hv : v < n) : (frL n es s v).Nodup := (outI_nodup hv).filter _
end Lo

/-- The marks of loops that are over. -/
def mkD (D : Nat) : Deferred := { target := .collected D, args := #[] }

structure Marks (B : Nat) (w : World) (Ds : List Nat) : Prop where
  nod : Ds.Nodup
  lie : ∀ D ∈ Ds, w.heap[D]? = some (.deferred (some []))
  lo : ∀ D ∈ Ds, B ≤ D

theorem marks_leave {n : Nat} {P : Program} {fn : Func} {tmps : Array Value} {R : Ending → World → Prop} {B : Nat} : ∀ (Ds : List Nat) (w : World), Marks B w Ds →
    (∀ w', Below B w w' → (∀ (b : Nat) (o : Obj), w.heap[b]? = some o → o.isCells = true → w'.heap[b]? = some o) → w'.heap.size = w.heap.size → LeavesInM Fence.wide n P fn tmps R [] .returning w') → LeavesInM Fence.wide n P fn tmps R (Ds.map mkD) .returning w
  | [], w, _, h => h w (Below.refl _ _) (fun _ _ h _ => h) rfl
  | D :: Ds, w, hm, h => by
    have hD := hm.lie D List.mem_cons_self
    have hnd := List.nodup_cons.1 hm.nod
    refine ⟨by simp, .inl ⟨D, _, rfl, run_takeDeferred hD, marks_leave Ds _ ⟨hnd.2, fun D' h' => ?_, fun D' h' => hm.lo D' (List.mem_cons_of_mem _ h')⟩ fun w' h1 h2 h3 => h w' ?_ (fun b o hb ho => ?_) ?_⟩⟩
    · have hne : D' ≠ D := fun e => hnd.1 (by rw [← e]; exact h')
      exact (World.putObj_heap_other hne).trans (hm.lie D' (List.mem_cons_of_mem _ h'))
    · exact ((Below.refl B w).grown (grownBy_putObj' w D _) (by have := hm.lo D List.mem_cons_self; have := (Array.getElem?_eq_some_iff.1 hD).1; omega) (fun k e => by cases e; exact hm.lo D List.mem_cons_self)).trans h1
    · refine h2 b o ((World.putObj_heap_other (fun e => ?_)).trans hb) ho
      subst e
      rw [hD] at hb
      cases hb
      cases ho
    · rw [h3]
      simp

end Go.Proofs.YtmgoahbloppdmaaGreat

/-
  Functions of the library, by their contracts, laid at this program.
-/
namespace Go.Proofs
open Go.Shelf
def Tryz.lays189_ren : Go.Shelf.Ren := ⟨fun | 189 => 48 | 125 => 67 | 257 => 66 | 128 => 88 | 129 => 89 | 294 => 79 | 295 => 80 | 296 => 81 | 297 => 82 | 298 => 83 | 299 => 84 | 216 => 85 | 300 => 86 | 301 => 87 | 328 => 100 | 329 => 101 | 330 => 102 | 331 => 103 | 332 => 104 | 215 => 105 | 343 => 110 | n => n, fun | 28 => 25 | 3 => 3 | 46 => 98 | 0 => 0 | 51 => 111 | 53 => 113 | 4 => 4 | 183 => 104 | 182 => 103 | 131 => 108 | 5 => 5 | 9 => 9 | 218 => 121 | 222 => 125 | 228 => 129 | 229 => 52 | n => n, fun | n => n⟩
theorem Tryz.lays189 : Go.Proofs.Lays.n189 Tryz.prog Tryz.lays189_ren := {
  mixed := by kernel_rfl
  f125 := Tryz.func67.trans (congrArg some (by kernel_rfl))
  f128 := Tryz.func88.trans (congrArg some (by kernel_rfl))
  f129 := Tryz.func89.trans (congrArg some (by kernel_rfl))
  f189 := Tryz.func48.trans (congrArg some (by kernel_rfl))
  f215 := Tryz.func105.trans (congrArg some (by kernel_rfl))
  f216 := Tryz.func85.trans (congrArg some (by kernel_rfl))
  f257 := Tryz.func66.trans (congrArg some (by kernel_rfl))
  f294 := Tryz.func79.trans (congrArg some (by kernel_rfl))
  f295 := Tryz.func80.trans (congrArg some (by kernel_rfl))
  f296 := Tryz.func81.trans (congrArg some (by kernel_rfl))
  f297 := Tryz.func82.trans (congrArg some (by kernel_rfl))
  f298 := Tryz.func83.trans (congrArg some (by kernel_rfl))
  f299 := Tryz.func84.trans (congrArg some (by kernel_rfl))
  f300 := Tryz.func86.trans (congrArg some (by kernel_rfl))
  f301 := Tryz.func87.trans (congrArg some (by kernel_rfl))
  f328 := Tryz.func100.trans (congrArg some (by kernel_rfl))
  f329 := Tryz.func101.trans (congrArg some (by kernel_rfl))
  f330 := Tryz.func102.trans (congrArg some (by kernel_rfl))
  f331 := Tryz.func103.trans (congrArg some (by kernel_rfl))
  f332 := Tryz.func104.trans (congrArg some (by kernel_rfl))
  f343 := Tryz.func110.trans (congrArg some (by kernel_rfl))
  t0 := Tryz.underlying0
  a0 := Tryz.isAgg0
  z0 := Tryz.sizeOf0
  v0 := Tryz.zeroValue0
  t3 := Tryz.underlying3
  a3 := Tryz.isAgg3
  z3 := Tryz.sizeOf3
  v3 := Tryz.zeroValue3
  t4 := Tryz.underlying4
  a4 := Tryz.isAgg4
  z4 := Tryz.sizeOf4
  v4 := Tryz.zeroValue4
  t5 := Tryz.underlying5
  a5 := Tryz.isAgg5
  z5 := Tryz.sizeOf5
  v5 := Tryz.zeroValue5
  t9 := Tryz.underlying9
  a9 := Tryz.isAgg9
  z9 := Tryz.sizeOf9
  v9 := Tryz.zeroValue9
  t28 := Tryz.underlying25
  a28 := Tryz.isAgg25
  z28 := Tryz.sizeOf25
  v28 := Tryz.zeroValue25
  t46 := Tryz.underlying98
  a46 := Tryz.isAgg98
  z46 := Tryz.sizeOf98
  v46 := Tryz.zeroValue98
  t51 := Tryz.underlying111
  a51 := Tryz.isAgg111
  z51 := Tryz.sizeOf111
  v51 := Tryz.zeroValue111
  t53 := Tryz.underlying113
  a53 := Tryz.isAgg113
  z53 := Tryz.sizeOf113
  v53 := Tryz.zeroValue113
  t131 := Tryz.underlying108
  a131 := Tryz.isAgg108
  z131 := Tryz.sizeOf108
  v131 := Tryz.zeroValue108
  t182 := Tryz.underlying103
  a182 := Tryz.isAgg103
  z182 := Tryz.sizeOf103
  v182 := Tryz.zeroValue103
  t183 := Tryz.underlying104
  a183 := Tryz.isAgg104
  z183 := Tryz.sizeOf104
  v183 := Tryz.zeroValue104
  t218 := Tryz.underlying121
  a218 := Tryz.isAgg121
  z218 := Tryz.sizeOf121
  v218 := Tryz.zeroValue121
  t222 := Tryz.underlying125
  a222 := Tryz.isAgg125
  z222 := Tryz.sizeOf125
  v222 := Tryz.zeroValue125
  t228 := Tryz.underlying129
  a228 := Tryz.isAgg129
  z228 := Tryz.sizeOf129
  v228 := Tryz.zeroValue129
  t229 := Tryz.underlying52
  a229 := Tryz.isAgg52
  z229 := Tryz.sizeOf52
  v229 := Tryz.zeroValue52 }
theorem Tryz.slices_Sort_int (blk off cap : Nat) (zs : List Int) (w : World) (hH : Sort.Holds (Value.int .i64) w blk off zs.toArray) (hblk : blk < w.heap.size) (hsz : zs.length < 4611686018427387904) :
    Calls Tryz.prog 48 #[.slice (some ⟨blk, off, none⟩) zs.length cap] w fun e w' =>
      e = .returned (.tuple #[]) ∧ ∃ n os, w' = Sort.grow (Sort.putRow (Value.int .i64) (Sort.ahead w n) blk off (zs.mergeSort fun x y => decide (x ≤ y)).toArray) os := Any.slices_Sort_int Tryz.lays189 blk off cap zs w hH hblk hsz
theorem Tryz.slices_Sort_int_none (p : Option Addr) (cap : Nat) (w : World) :
    Calls Tryz.prog 48 #[.slice p 0 cap] w fun e w' => e = .returned (.tuple #[]) ∧ w' = w := Any.slices_Sort_int_none Tryz.lays189 p cap w
end Go.Proofs

/-
  slices.Sort of a list of ints of one's own.
-/
namespace Go.Proofs.YtmgoahbloppdmaaGreat
open Go.RowKit Go.Sort

theorem isort_any (B : Nat) (v : Value) (R : List Int) (w : World) (h : OwnZ w B v R) (hl : R.length ≤ 8388608) :
    Calls Tryz.prog 48 #[v] w fun e w' => e = .returned (.tuple #[]) ∧ OwnZ w' B v (R.mergeSort fun x y => decide (x ≤ y)) ∧ w.grownBy w' v.ownBlock := by
  have hml : (R.mergeSort fun x y => decide (x ≤ y)).length = R.length := List.length_mergeSort R
  rcases h.2 with ⟨rfl, h0⟩ | ⟨g, cap, cur, rfl, hg, hh, hc, hm, hs, ht⟩
  · have hR : R = [] := List.length_eq_zero_iff.1 h0
    subst hR
    refine (Tryz.slices_Sort_int_none none 0 w).mono ?_
    rintro e w' ⟨rfl, rfl⟩
    exact ⟨rfl, by simpa using h, rfl, rfl, rfl, Nat.le_refl _, fun _ _ _ => rfl⟩
  · rw [Nat.mul_one] at ht
    refine (Tryz.slices_Sort_int g 0 cap R w (holds_of_blockI hh ht) (lt_of_block hh) (by omega)).mono ?_
    rintro e w' ⟨rfl, n, os, rfl⟩
    refine ⟨rfl, ?_, grownBy_sortedI _⟩
    unfold OwnZ
    rw [hml]
    exact ownsRow_sortedI hml hg hh hc hm hs

end Go.Proofs.YtmgoahbloppdmaaGreat
