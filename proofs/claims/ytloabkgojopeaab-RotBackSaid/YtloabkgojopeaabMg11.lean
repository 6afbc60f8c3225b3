import Derived.Test.YtloabkgojopeaabMg04
import Derived.Laws.CopyOwn
import Derived.Deep.RegionLaw
import Derived.Test.YtloabkgojopeaabMg10
import Derived.Test.YtloabkgojopeaabMg02
import Derived.Test.YtloabkgojopeaabMg03
/-
  slices.Repeat of one int: math/bits' Mul at small numbers.
-/
namespace Go.Proofs.Ytloabkgojopeaab
open Go.RowKit

theorem and_low (n : Nat) (hn : n < 4294967296) : bits .and .u64 (n : Int) 4294967295 = (n : Int) := by
  have h1 : (BitVec.ofInt 64 (n : Int)).toNat = n := by
    rw [BitVec.ofInt_natCast, BitVec.toNat_ofNat]; exact Nat.mod_eq_of_lt (by omega)
  have h2 : (BitVec.ofInt 64 (4294967295 : Int)).toNat = 4294967295 := by decide
  show IntKind.u64.wrap ((BitVec.ofInt 64 (n : Int) &&& BitVec.ofInt 64 (4294967295 : Int)).toNat : Int) = _
  rw [BitVec.toNat_and, h1, h2]
  have h3 : n &&& 4294967295 = n := by
    have := Nat.and_two_pow_sub_one_eq_mod n 32
    rw [show (2 ^ 32 - 1 : Nat) = 4294967295 by decide] at this
    rw [this]
    exact Nat.mod_eq_of_lt (by omega)
  rw [h3, IntKind.wrap_u64]
  omega

set_option maxRecDepth 100000 in
set_option maxHeartbeats 4000000 in
theorem mul64_any (n : Nat) (w : World) (hn : n ≤ 1048576) :
    Calls Try.prog 56 #[.int .u64 1, .int .u64 (n : Int)] w fun e w' => e = .returned (.tuple #[.int .u64 0, .int .u64 (n : Int)]) ∧ w' = w := by
  have h1 := and_low n (by omega)
  have h2 : bits .and .u64 (1 : Int) 4294967295 = 1 := by decide
  have h3 : bits .and .u64 (0 : Int) 4294967295 = 0 := by decide
  have h4 : IntKind.u64.wrap (n : Int) = (n : Int) := by rw [IntKind.wrap_u64]; omega
  go_enter Try.func56, Try.ntmps56
  have h5 : (n : Int) / 4294967296 = 0 := by omega
  go_wp2
  go_ret2
  exact ⟨rfl, rfl⟩

set_option maxRecDepth 100000 in
set_option maxHeartbeats 4000000 in
theorem mul_any (n : Nat) (w : World) (hn : n ≤ 1048576) :
    Calls Try.prog 53 #[.int .u64 1, .int .u64 (n : Int)] w fun e w' => e = .returned (.tuple #[.int .u64 0, .int .u64 (n : Int)]) ∧ w' = w := by
  have HM := Nu.hid (mul64_any n w hn)
  go_enter Try.func53, Try.ntmps53
  go_wp2_with (go_at_call 56; refine HM.out.mono ?_; rintro e w' ⟨rfl, rfl⟩)
  go_ret2
  exact ⟨rfl, rfl⟩

namespace Ro
/-- The first k are laid. -/
def rep (z : Int) (n k : Nat) : List Int := List.replicate k z ++ List.replicate (n - k) 0
theorem rep_len (z : Int) {n k : Nat} (h : k ≤ n) : (rep z n k).length = n := by simp [rep]; omega
theorem rep_at {z : Int} {n k j : Nat} (hj : j < k) : (rep z n k)[j]? = some z := by
  unfold rep
  rw [List.getElem?_append_left (by simpa using hj), List.getElem?_replicate, if_pos hj]
theorem rep_splice (z : Int) {n k c : Nat} (h : k + c ≤ n) : splice ((rep z n k).map (Value.int .i64)) k (List.replicate c (Value.int .i64 z)) = (rep z n (k + c)).map (Value.int .i64) := by
  unfold splice rep
  simp only [List.map_append, List.map_replicate, List.length_replicate]
  rw [List.take_append_of_le_length (by simp), List.take_of_length_le (by simp), List.drop_append, List.drop_of_length_le (by simp), List.nil_append, List.length_replicate, List.drop_replicate, ← List.append_assoc, List.replicate_append_replicate]
  congr 2
  omega
end Ro

/-- What Repeat answers. -/
def RepPost (z : Int) (n : Nat) (w : World) (e : Ending) (w' : World) : Prop := ∃ g, e = .returned (.slice (some ⟨g, 0, none⟩) n n) ∧ w.heap.size ≤ g ∧ IntsBlk w' g (List.replicate n z) ∧ Below w.heap.size w w'

theorem sizeInt1 : (Try.prog.info? 3).map (·.size) = some 1 := by kernel_rfl

/-- 'copy' within the row: the first c of those that are laid come behind them. -/
theorem run_copy_rep (W : World) (g n k c : Nat) (z : Int) (dp sp : Option Addr) (dLen dCap sLen sCap : Nat) (hI : IntsBlk W g (Ro.rep z n k)) (hk : k + c ≤ n) (hc : c = Nat.min sLen dLen) (hd : 0 < c → dp = some ⟨g, k, none⟩) (hs : 0 < c → ∃ ad, sp = some ad ∧ ∀ j, j < c → W.cell? (ad.add j) = some (.int .i64 z)) (ty : TypeId) :
    ∃ w', (Builtin.copy_ #[39, 39] ty #[.slice dp dLen dCap, .slice sp sLen sCap]).run Try.prog W = .ok (goInt c) w' ∧ IntsBlk w' g (Ro.rep z n (k + c)) ∧ ∀ B, B ≤ g → Below B W w' := by
  by_cases h0 : c = 0
  · subst h0
    exact ⟨W, run_copy_none (P := Try.prog) W 39 39 ty 3 dp sp dLen dCap sLen sCap Try.underlying39 sizeInt1 hc.symm, hI, fun B _ => Below.refl _ _⟩
  · obtain rfl := hd (by omega)
    obtain ⟨ad, rfl, hcell⟩ := hs (by omega)
    have hrun := run_copy_row (P := Try.prog) W 39 39 ty 3 g k dLen dCap ad sLen sCap ((Ro.rep z n k).map (Value.int .i64)).toArray 3 (List.replicate c (Value.int .i64 z)) Try.underlying39 sizeInt1 hI (by rw [List.length_replicate]; exact hc)
      (fun j v hj => by
        rw [List.getElem?_replicate] at hj
        split at hj
        · cases hj
          exact hcell j (by assumption)
        · cases hj) (by simp [Ro.rep]; omega) (fun v hv => by rw [List.eq_of_mem_replicate hv]; rfl)
    rw [List.length_replicate] at hrun
    refine ⟨_, hrun, ?_, fun B hB => ⟨rfl, rfl, rfl, by simp [World.setRow], fun q hq => setRow_other W g q _ (by omega)⟩⟩
    unfold IntsBlk
    rw [setRow_heap W g _ _ 3 _ hI, ← Ro.rep_splice z hk]
    unfold splice
    rw [List.length_replicate, List.append_assoc]

set_option maxRecDepth 100000 in
set_option maxHeartbeats 8000000 in
theorem repeat_any (z : Int) (b n : Nat) (w : World) (hc : w.cell? ⟨b, 0, none⟩ = some (.int .i64 z)) (hn : n ≤ 1048576) :
    Calls Try.prog 48 #[.slice (some ⟨b, 0, none⟩) 1 1, .int .i64 (n : Int)] w (RepPost z n w) := by
  obtain ⟨i0, hi, hz0, hz1, hz2⟩ := info_parts Try.infoNum
  have h4 : IntKind.u64.wrap (n : Int) = (n : Int) := by rw [IntKind.wrap_u64]; omega
  have h5 : IntKind.i64.wrap (n : Int) = (n : Int) := by rw [IntKind.wrap_i64]; omega
  have h6 : ¬ (9223372036854775807 : Int) < (n : Int) := by omega
  have hn0 : ¬ (n : Int) < 0 := by omega
  have HM := Nu.hid (mul_any n w hn)
  have HC := Nu.hid hc
  clear hc
  go_enter Try.func48, Try.ntmps48
  go_wp2_with (first
    | (go_at_call 53; refine HM.out.mono ?_; rintro e w' ⟨rfl, hw⟩; obtain rfl := hw.symm)
    | (at_make; refine wpList_make_full _ rfl _ _ 39 rfl w.heap.size 3 i0 (.int .i64 0) 1 Try.underlying39 hi hz0 hz1 _ _ _ _ n rfl rfl rfl rfl (by rw [hz2]; omega) (by unfold maxLen; omega) (Nat.le_refl _) ?_; refine Hid.out ?_))
  refine Nu.hid ?_
  intro w2 hrow hg2
  rw [made_zeros] at hrow
  have hb2 : Below w.heap.size w w2 := (Below.refl _ _).grown hg2 (Nat.le_refl _) (fun j hj => by cases hj)
  have hI : IntsBlk w2 w.heap.size (Ro.rep z n 0) := by
    unfold Ro.rep
    simpa using ints_of_row hrow
  have hc2 := (hb2.cell (p := ⟨b, 0, none⟩) (block_lt_of_cell HC.out)).trans HC.out
  have hmin : Nat.min 1 n ≤ n := Nat.min_le_right _ _
  obtain ⟨c, hcm⟩ : ∃ c, c = Nat.min 1 n := ⟨_, rfl⟩
  rw [← hcm] at hmin
  have hc1 : c ≤ 1 := by rw [hcm]; exact Nat.min_le_left _ _
  have hc3 : n ≠ 0 → 0 < c := fun h => by
    rw [hcm]
    show 0 < min 1 n
    omega
  obtain ⟨w3, hrun, hI3, hb3⟩ := run_copy_rep w2 w.heap.size n 0 c z (some ⟨w.heap.size, 0, none⟩) (some ⟨b, 0, none⟩) n n 1 1 hI (by omega) hcm (fun _ => rfl) (fun _ => ⟨_, rfl, fun j hj => by
    obtain rfl : j = 0 := by omega
    exact hc2⟩) 3
  rw [Nat.zero_add] at hI3
  have HI3 := Nu.hid hI3
  have HB3 := Nu.hid (hb2.trans (hb3 _ (Nat.le_refl _)))
  have HC3 := Nu.hid hc3
  clear hrow hg2 hb2 hI hc2 hcm hI3 hb3 hc3
  go_wp2
  go_loopw [8] (fun x wr => ∃ k : Nat, k ≤ n ∧ (n ≠ 0 → 0 < k) ∧ x = .int .i64 (k : Int) ∧ IntsBlk wr w.heap.size (Ro.rep z n k) ∧ Below w.heap.size w wr) (fun x _ => n - (intOf x).toNat)
  case atStart => exact ⟨c, hmin, HC3.out, rfl, HI3.out, HB3.out⟩
  case round =>
    clear hrun HI3 HB3 HC3
    obtain ⟨k, hk, hk0, rfl, hik, hb⟩ := hrel
    have HI := Nu.hid hik
    have HB := Nu.hid hb
    clear hik hb
    by_cases hlt : k < n
    · have hlti : (k : Int) < (n : Int) := by omega
      have hkp : 0 < k := hk0 (by omega)
      obtain ⟨c', hc'⟩ : ∃ c', c' = Nat.min k (n - k) := ⟨_, rfl⟩
      have hc1' : c' ≤ k := by rw [hc']; exact Nat.min_le_left _ _
      have hc2' : k + c' ≤ n := by
        have : c' ≤ n - k := by rw [hc']; exact Nat.min_le_right _ _
        omega
      have hc3' : 0 < c' := by
        rw [hc']
        show 0 < min k (n - k)
        omega
      obtain ⟨w4, hrun, hI4, hb4⟩ := run_copy_rep wr.drew w.heap.size n k c' z (some ⟨w.heap.size, k, none⟩) (some ⟨w.heap.size, 0, none⟩) (n - k) (n - k) k n HI.out hc2' hc' (fun _ => rfl) (fun _ => ⟨_, rfl, fun j hj => by
        have ea : ((⟨w.heap.size, 0, none⟩ : Addr).add j) = ⟨w.heap.size, j, none⟩ := by
          by_cases h0 : j = 0 <;> simp [Addr.add, h0]
        rw [ea]
        exact HI.out.cell (Ro.rep_at (by omega))⟩) 3
      have HI4 := Nu.hid hI4
      have HB4 := Nu.hid (HB.out.trans (((Below.refl _ _).drew).trans (hb4 _ (Nat.le_refl _))))
      clear hI4 hb4 hc'
      go_wp2_with fail
      go_region
      clear hrun
      go_wp2
      go_roundw
      case rel => exact ⟨k + c', hc2', fun _ => by omega, by simp, HI4.out, HB4.out⟩
      case measure => simp [intOf]; omega
    · have hlti : ¬ (k : Int) < (n : Int) := by omega
      obtain rfl : k = n := by omega
      go_wp2
      go_ret
      refine ⟨_, rfl, Nat.le_refl _, ?_, HB.out⟩
      have h1 := HI.out
      unfold Ro.rep at h1
      simpa using h1

end Go.Proofs.Ytloabkgojopeaab

/-
  The finder: it tells half-edges by the vertices to which they lead.
-/
namespace Go.Proofs.Ytloabkgojopeaab
open Go.RowKit Go.Sort

/-- Block p is a finder of the graph: its lists at gf, ga, gl; all laid since block B. -/
structure FiAt (w : World) (B p gf ga gl n : Nat) (ao : Option Addr) (ca : Nat) (es : List (Int × Int)) (F An D : List Int) : Prop where
  blk : w.heap[p]? = some (.cells #[.int .i64 (n : Int), .slice ao es.length ca, .slice (some ⟨gf, 0, none⟩) n n, .slice (some ⟨ga, 0, none⟩) (2 * es.length) (2 * es.length), .slice (some ⟨gl, 0, none⟩) n n] 79 (0, 0))
  first : IntsBlk w gf F
  another : IntsBlk w ga An
  leading : IntsBlk w gl D
  lo : B ≤ p ∧ B ≤ gf ∧ B ≤ ga ∧ B ≤ gl
  ne : p ≠ gf ∧ p ≠ ga ∧ p ≠ gl ∧ gf ≠ ga ∧ gf ≠ gl ∧ ga ≠ gl

section
variable {w w' : World} {B p gf ga gl n : Nat} {ao : Option Addr} {ca : Nat} {es : List (Int × Int)} {F An D : List Int}
theorem FiAt.later (h : FiAt w B p gf ga gl n ao ca es F An D) (hb : Below w.heap.size w w') : FiAt w' B p gf ga gl n ao ca es F An D :=
  ⟨(hb.block p (lt_of_block h.blk)).trans h.blk, h.first.later hb, h.another.later hb, h.leading.later hb, h.lo, h.ne⟩
theorem FiAt.keep (h : FiAt w B p gf ga gl n ao ca es F An D) (hb : ∀ b, b = p ∨ b = gf ∨ b = ga ∨ b = gl → w'.heap[b]? = w.heap[b]?) : FiAt w' B p gf ga gl n ao ca es F An D :=
  ⟨(hb p (.inl rfl)).trans h.blk, (hb gf (.inr (.inl rfl))).trans h.first, (hb ga (.inr (.inr (.inl rfl)))).trans h.another, (hb gl (.inr (.inr (.inr rfl)))).trans h.leading, h.lo, h.ne⟩
theorem FiAt.setF (h : FiAt w B p gf ga gl n ao ca es F An D) (j : Nat) (x : Int) : FiAt (w.setCell ⟨gf, j, none⟩ (.int .i64 x)) B p gf ga gl n ao ca es (F.set j x) An D :=
  ⟨(blk_same h.ne.1 _).trans h.blk, h.first.set j x, h.another.set_far (Ne.symm h.ne.2.2.2.1) _, h.leading.set_far (Ne.symm h.ne.2.2.2.2.1) _, h.lo, h.ne⟩
theorem FiAt.setA (h : FiAt w B p gf ga gl n ao ca es F An D) (j : Nat) (x : Int) : FiAt (w.setCell ⟨ga, j, none⟩ (.int .i64 x)) B p gf ga gl n ao ca es F (An.set j x) D :=
  ⟨(blk_same h.ne.2.1 _).trans h.blk, h.first.set_far h.ne.2.2.2.1 _, h.another.set j x, h.leading.set_far (Ne.symm h.ne.2.2.2.2.2) _, h.lo, h.ne⟩
theorem FiAt.setL (h : FiAt w B p gf ga gl n ao ca es F An D) (j : Nat) (x : Int) : FiAt (w.setCell ⟨gl, j, none⟩ (.int .i64 x)) B p gf ga gl n ao ca es F An (D.set j x) :=
  ⟨(blk_same h.ne.2.2.1 _).trans h.blk, h.first.set_far h.ne.2.2.2.2.1 _, h.another.set_far h.ne.2.2.2.2.2 _, h.leading.set j x, h.lo, h.ne⟩
theorem five_cells {R : Nat} {t : TypeId} {a b c d e : Value} (h : w.heap[R]? = some (.cells #[a, b, c, d, e] t (0, 0))) : w.cell? ⟨R, 0, none⟩ = some a ∧ w.cell? ⟨R, 1, none⟩ = some b ∧ w.cell? ⟨R, 2, none⟩ = some c ∧ w.cell? ⟨R, 3, none⟩ = some d ∧ w.cell? ⟨R, 4, none⟩ = some e := by
  refine ⟨?_, ?_, ?_, ?_, ?_⟩ <;> simp [World.cell?, h]
end

set_option maxRecDepth 100000 in
set_option maxHeartbeats 4000000 in
theorem fto_any (B p gf ga gl n : Nat) (ao : Option Addr) (ca : Nat) (es : List (Int × Int)) (F An D : List Int) (x : Int) (w : World) (hf : FiAt w B p gf ga gl n ao ca es F An D) (hD : D.length = n) :
    Calls Try.prog 37 #[.pointer (some ⟨p, 0, none⟩), .int .i64 x] w fun e w' => e = .returned (.int .i64 (Ro.toF n D x)) ∧ w' = w := by
  obtain ⟨c0, c1, c2, c3, c4⟩ := five_cells hf.blk
  have HF := Nu.hid hf
  have HD := Nu.hid hD
  clear hf hD
  by_cases h0 : 0 ≤ x
  · by_cases h1 : x < (n : Int)
    · obtain ⟨y, rfl⟩ : ∃ y : Nat, x = (y : Int) := ⟨x.toNat, by omega⟩
      obtain ⟨z, hz⟩ : ∃ z, D[y]? = some z := ⟨_, List.getElem?_eq_getElem (by have := HD.out; omega)⟩
      have cz := HF.out.leading.cell hz
      have he : Ro.toF n D (y : Int) = z := by
        unfold Ro.toF
        rw [if_pos ⟨h0, h1⟩, Int.toNat_natCast, List.getD_eq_getElem?_getD, hz]
        rfl
      rw [he]
      have j1 : ¬ (y : Int) < 0 := by omega
      have j2 : ¬ (n : Int) ≤ (y : Int) := by omega
      clear he hz
      go_enter Try.func37, Try.ntmps37
      go_wp2
      go_ret
      exact ⟨rfl, rfl⟩
    · have he : Ro.toF n D x = -1 := by
        unfold Ro.toF
        rw [if_neg (by omega)]
      rw [he]
      have j1 : ¬ x < 0 := by omega
      have j2 : (n : Int) ≤ x := by omega
      clear he
      go_enter Try.func37, Try.ntmps37
      go_wp2
      go_ret
      exact ⟨rfl, rfl⟩
  · have he : Ro.toF n D x = -1 := by
      unfold Ro.toF
      rw [if_neg (by omega)]
    rw [he]
    have j1 : x < 0 := by omega
    clear he
    go_enter Try.func37, Try.ntmps37
    go_wp2
    go_ret
    exact ⟨rfl, rfl⟩

/-- What at reads while it tells: the finder's fields. -/
structure FS (V w0 : World) (p gl n : Nat) (ao : Option Addr) (m ca : Nat) : Prop where
  n0 : V.cell? ⟨p, 0, none⟩ = some (.int .i64 (n : Int))
  e0 : V.cell? ⟨p, 1, none⟩ = some (.slice ao m ca)
  l0 : V.cell? ⟨p, 4, none⟩ = some (.slice (some ⟨gl, 0, none⟩) n n)
  far : p ≠ gl ∧ w0.heap.size ≤ gl
  low : Below w0.heap.size w0 V

theorem FS.later {V V' w0 : World} {p gl n m ca : Nat} {ao : Option Addr} (h : FS V w0 p gl n ao m ca) (hb : Below V.heap.size V V') : FS V' w0 p gl n ao m ca :=
  ⟨(hb.cell (p := ⟨p, 0, none⟩) (block_lt_of_cell h.n0)).trans h.n0, (hb.cell (p := ⟨p, 1, none⟩) (block_lt_of_cell h.e0)).trans h.e0, (hb.cell (p := ⟨p, 4, none⟩) (block_lt_of_cell h.l0)).trans h.l0, h.far, h.low.trans (hb.mono h.low.size)⟩
theorem FS.store {V w0 : World} {p gl n m ca : Nat} {ao : Option Addr} (h : FS V w0 p gl n ao m ca) (i : Nat) (x : Value) : FS (V.setCell ⟨gl, i, none⟩ x) w0 p gl n ao m ca := by
  have h1 := h.far.1
  exact ⟨(World.cell?_setCell_other _ _ _ _ (fun e => by simp only [Addr.mk.injEq] at e; omega)).trans h.n0, (World.cell?_setCell_other _ _ _ _ (fun e => by simp only [Addr.mk.injEq] at e; omega)).trans h.e0, (World.cell?_setCell_other _ _ _ _ (fun e => by simp only [Addr.mk.injEq] at e; omega)).trans h.l0, h.far, h.low.trans (below_setCell (g := gl) _ h.far.2)⟩

theorem frozen_later' {V V' : World} {g i : Nat} (hb : Below V.heap.size V V') (hg : g < V.heap.size) : V'.frozen? ⟨g, i, none⟩ = V.frozen? ⟨g, i, none⟩ := by
  unfold World.frozen?
  rw [hb.block g hg]

def FatPost (B p gf ga gl n : Nat) (ao : Option Addr) (ca : Nat) (es : List (Int × Int)) (F An : List Int) (v : Nat) (w : World) (e : Ending) (w' : World) : Prop :=
  e = .returned (.tuple #[]) ∧ Wrote (fun b => b = gl) w w' ∧ ∃ D, FiAt w' B p gf ga gl n ao ca es F An D ∧ Ro.Ld n es v 0 D

set_option maxRecDepth 100000 in
set_option maxHeartbeats 8000000 in
theorem fat_any (B p gf ga gl n : Nat) (ao : Option Addr) (ca : Nat) (es : List (Int × Int)) (F An D : List Int) (v : Nat) (w0 w : World) (hf : FiAt w B p gf ga gl n ao ca es F An D) (hfi : Ro.Fi n es F An (2 * es.length)) (hld : Ro.Ld n es v (2 * es.length) D) (he : EdgesAt w0 ao es) (hB : B = w0.heap.size) (hb0 : Below B w0 w) (hv : Si.Val n es) (hvn : v < n) :
    Calls Try.prog 36 #[.pointer (some ⟨p, 0, none⟩), .int .i64 (v : Int)] w (FatPost B p gf ga gl n ao ca es F An v w) := by
  obtain ⟨c0, c1, c2, c3, c4⟩ := five_cells hf.blk
  have cf := hf.first.cell (hfi.first v hvn)
  have hvn2 : (v : Int) < (n : Int) := by omega
  have hfew := hv.few
  have hBl := hf.lo.2.2.2
  have HF := Nu.hid hf
  have HFI := Nu.hid hfi
  have HLD := Nu.hid hld
  have HE := Nu.hid he
  have HB0 := Nu.hid hb0
  have HBE := Nu.hid hB
  have HV := Nu.hid hv
  obtain ⟨L0, hL0⟩ : ∃ L0, L0 = Ro.lo es v (2 * es.length) := ⟨_, rfl⟩
  rw [← hL0] at cf
  have HL0 := Nu.hid hL0
  clear hf hfi hld he hb0 hB hv hL0
  go_enter Try.func36, Try.ntmps36
  go_wp2
  clear c0 c1 c2 c3 c4 cf
  go_loopw [4] (fun c wr => ∃ (k : Nat) (D : List Int), k ≤ 2 * es.length ∧ c = .int .i64 (Ro.lo es v k) ∧ Ro.Ld n es v k D ∧ FiAt wr B p gf ga gl n ao ca es F An D ∧ Wrote (fun b => b = gl) w wr) (fun c _ => (intOf c + 1).toNat)
  case atStart => exact ⟨2 * es.length, D, Nat.le_refl _, by rw [HL0.out], HLD.out, HF.out, Wrote.refl _ _⟩
  case round =>
    clear HF HLD
    obtain ⟨k, D, hk, rfl, hld, hf, hb⟩ := hrel
    have HLD := Nu.hid hld
    have HF := Nu.hid hf
    have HB := Nu.hid hb
    obtain ⟨c0, c1, c2, c3, c4⟩ := five_cells hf.blk
    clear hld hf hb
    rcases Ro.lo_spec es v k with ⟨h1, h2⟩ | ⟨h, h1, h2, h3, h4⟩
    · rw [h1]
      have HD := Nu.hid (HLD.out.done h2)
      clear h1 h2
      go_wp2
      go_end0
      exact ⟨rfl, HB.out, D, HF.out, HD.out⟩
    · rw [h1]
      have hh : h < 2 * es.length := by omega
      have t1 : ((h : Int) != -1) = true := by first | (simp; done) | (simp; omega)
      have HLT := Nu.hid (fun V (hV : Below w0.heap.size w0 V) => leadsTo_any n ao ca es h V (HE.out.later hV) HV.out hh)
      have htn := (Cs.half_lt HV.out hh).2
      have HP := Nu.hid (HLD.out.put HV.out hk h2 h3 h4)
      have H3 := Nu.hid h3
      obtain ⟨y, hy⟩ : ∃ y, D[Cs.to es h]? = some y := ⟨_, List.getElem?_eq_getElem (by rw [HLD.out.len]; exact htn)⟩
      have HY := Nu.hid (HF.out.leading.cell hy)
      have hBw := HB0.out.trans (HB.out.below (by rw [HBE.out]; exact HB0.out.size) (fun q hq => by rw [hq]; exact hBl))
      rw [HBE.out] at hBw
      have HBW := Nu.hid hBw
      obtain ⟨t, ht⟩ : ∃ t, t = Cs.to es h := ⟨_, rfl⟩
      rw [← ht] at HLT htn HP HY
      have htn2 : (t : Int) < (n : Int) := by omega
      have hh2 : (h : Int) < 2 * (es.length : Int) := by omega
      have HAS : Hid (FS wr.drew w0 p gl n ao es.length ca) := FS.later (V := wr) ⟨c0, c1, c4, ⟨HF.out.ne.2.2.1, by rw [← HBE.out]; exact hBl⟩, HBW.out⟩ (Below.refl _ _).drew
      have HS : Hid (∀ V, FS V w0 p gl n ao es.length ca → V.cell? ⟨p, 0, none⟩ = some (.int .i64 (n : Int)) ∧ V.cell? ⟨p, 1, none⟩ = some (.slice ao es.length ca) ∧ V.cell? ⟨p, 4, none⟩ = some (.slice (some ⟨gl, 0, none⟩) n n) ∧ FS V w0 p gl n ao es.length ca) := fun V hV => ⟨hV.n0, hV.e0, hV.l0, hV⟩
      have HFR := Nu.hid (HF.out.leading.free t)
      clear h1 h3 h4 hy hBw ht c0 c1 c2 c3 c4
      go_wp2_with fail
      go_region_held3 (fun V => V.cell? ⟨p, 0, none⟩ = some (.int .i64 (n : Int)) ∧ V.cell? ⟨p, 1, none⟩ = some (.slice ao es.length ca) ∧ V.cell? ⟨p, 4, none⟩ = some (.slice (some ⟨gl, 0, none⟩) n n) ∧ FS V w0 p gl n ao es.length ca)
        (first | exact HS.out _ (by first | assumption | exact HAS.out) | exact HS.out _ (FS.store (by first | assumption | exact HAS.out) _ _))
        ((go_at_call 24; refine (HLT.out _ HAS.out.low).mono ?_; rintro e V1 ⟨rfl, hb1⟩; have has1 := HAS.out.later hb1; have hy1 := (hb1.cell (p := ⟨gl, t, none⟩) (block_lt_of_cell HY.out)).trans HY.out; have hfr1 : V1.frozen? ⟨gl, t, none⟩ = false := (frozen_later' hb1 (block_lt_of_cell HY.out)).trans HFR.out))
      have hbV : Below wr.heap.size wr V1 := ((Below.refl wr.heap.size wr).drew).trans hb1
      have hF2 := (HF.out.later hbV).setL t (h : Int)
      obtain ⟨c0, c1, c2, c3, c4⟩ := five_cells hF2.blk
      have can := hF2.another.cell (HFI.out.another h hh)
      have HF2 := Nu.hid hF2
      have HB2 := Nu.hid ((HB.out.later hbV).setCell (b := gl) (i := t) rfl (.int .i64 (h : Int)))
      rw [H3.out] at can
      clear hbV hb1 has1 hy1 hfr1 hF2
      go_wp2
      go_roundw
      case rel => exact ⟨h, D.set t (h : Int), by omega, rfl, HP.out, HF2.out, HB2.out⟩
      case measure =>
        simp [intOf]
        rcases Ro.lo_spec es v h with ⟨q1, -⟩ | ⟨q, q1, q2, -⟩ <;> rw [q1] <;> omega

end Go.Proofs.Ytloabkgojopeaab
