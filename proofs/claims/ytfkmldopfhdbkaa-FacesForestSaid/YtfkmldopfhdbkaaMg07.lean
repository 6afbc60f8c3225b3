import Derived.Test.YtfkmldopfhdbkaaMg06
import Derived.BigRegion
import Derived.Deep.RegionLaw
import Derived.Deep.CutBlock
import Derived.Deep.CutRange
import Derived.Test.YtfkmldopfhdbkaaMg04
import Derived.Test.YtfkmldopfhdbkaaMg05
/-
  New.
-/
namespace Go.Proofs.Ytfkmldopfhdbkaa
open Go.RowKit

theorem Try.infoTree : (Try.prog.info? 97).map (fun i => (i.zero, i.size, i.bytes)) = some (some (.agg #[.int .i64 0, .int .i64 0]), 2, 16) := by kernel_rfl

theorem made_ints {W : World} {k n : Nat} (h : W.heap.size = k) : IntsIn (W.alloc (.cells (madeCells #[.int .i64 0] n) 3)) k (Co.ints n (fun _ => 0)) := by
  subst h
  refine ⟨[], ?_⟩
  rw [heap_alloc_new, List.append_nil, Co.ints_zero, ← made_zeros]

theorem made_trees {W : World} {k n : Nat} (h : W.heap.size = k) : TreesIn (W.alloc (.cells (madeCells #[.int .i64 0, .int .i64 0] (n * 2)) 97)) k n (fun _ => 0) (fun _ => 0) := by
  subst h
  have hc : ∀ j, j < n * 2 → (madeCells #[Value.int .i64 0, Value.int .i64 0] (n * 2)).toList[j]? = some (.int .i64 0) := fun j hj => by
    have e : (madeCells #[Value.int .i64 0, Value.int .i64 0] (n * 2)).toList = (List.range (n * 2)).map (fun x => [Value.int .i64 0, Value.int .i64 0][x % 2]?.getD default) := by simp [madeCells]
    rw [e, List.getElem?_map, List.getElem?_range hj]
    rcases Nat.mod_two_eq_zero_or_one j with h | h <;> simp [h]
  refine ⟨(madeCells #[Value.int .i64 0, Value.int .i64 0] (n * 2)).toList, by rw [heap_alloc_new], by rw [Array.length_toList, size_madeCells], fun i hi => ⟨hc _ (by omega), hc _ (by omega)⟩⟩

theorem TreesIn.alloc {w : World} {g n : Nat} {S L : Nat → Nat} (h : TreesIn w g n S L) (o : Obj) : TreesIn (w.alloc o) g n S L := h.same (Below.heap_alloc w o g h.lt)

theorem sets_new {W : World} {p gp gt n : Nat} (h : W.heap.size = p) : (W.alloc (.cells #[.slice (some ⟨gp, 0, none⟩) n n, .slice (some ⟨gt, 0, none⟩) n n, .int .i64 (n : Int)] 95)).heap[p]? = some (.cells #[.slice (some ⟨gp, 0, none⟩) n n, .slice (some ⟨gt, 0, none⟩) n n, .int .i64 (n : Int)] 95 (0, 0)) := by
  subst h
  exact heap_alloc_new W _

/-- What New has made, k numbers of which are laid. -/
def NewMidC (n k p : Nat) (w wr : World) : Prop :=
  ∃ gp gt P S L, SetsHolds wr p gp gt n n P S L ∧ (∀ i, i < k → P i = i ∧ S i = 1 ∧ L i = i) ∧ w.heap.size ≤ p ∧ w.heap.size ≤ gp ∧ w.heap.size ≤ gt ∧ Below w.heap.size w wr

/-- Nothing, or a new Sets of single numbers. -/
def NewPostC (n : Int) (w : World) (e : Ending) (w' : World) : Prop :=
  ((∃ k p gp gt : Nat, n = (k : Int) ∧ k ≤ 1048576 ∧ e = .returned (.tuple #[.pointer (some ⟨p, 0, none⟩), .int .i64 0]) ∧ SetsOf w' p gp gt k (fun x => x) ∧ w.heap.size ≤ p ∧ w.heap.size ≤ gp ∧ w.heap.size ≤ gt) ∨ ((n < 0 ∨ 1048576 < n) ∧ e = .returned (.tuple #[.pointer none, .int .i64 2]))) ∧ Below w.heap.size w w'

set_option maxRecDepth 100000 in
set_option maxHeartbeats 8000000 in
theorem new_any (n : Int) (w : World) : Calls Try.prog 40 #[.int .i64 n] w (NewPostC n w) := by
  obtain ⟨i0, hi, hz0, hz1, hz2⟩ := info_parts Try.infoNum
  obtain ⟨i1, hi1, hy0, hy1, hy2⟩ := info_parts Try.infoTree
  by_cases h1 : n < 0
  · go_enter Try.func40, Try.ntmps40
    go_wp2
    go_ret2
    exact ⟨.inr ⟨.inl h1, rfl⟩, Below.refl _ _⟩
  by_cases h2 : 1048576 < n
  · go_enter Try.func40, Try.ntmps40
    go_wp2
    go_ret2
    exact ⟨.inr ⟨.inr h2, rfl⟩, Below.refl _ _⟩
  obtain ⟨k, rfl⟩ : ∃ k : Nat, n = (k : Int) := ⟨n.toNat, by omega⟩
  have hkn : k ≤ 1048576 := by omega
  have hm1 : ∀ W, (Instr.makeSlice 92 (.int .i64 (k : Int)) (.int .i64 (k : Int))).run Try.prog W = .ok (.slice (some ⟨W.heap.size, 0, none⟩) k k) (W.alloc (.cells (madeCells #[.int .i64 0] k) 3)) := fun W => by
    have := run_make (P := Try.prog) W 92 3 i0 (.int .i64 0) Try.underlying92 hi hz0 .i64 .i64 (k : Int) (k : Int) (by omega) (Int.le_refl _) (by rw [hz2]; omega) (by omega)
    rw [this, hz1]
    simp [Value.cells]
  have hm2 : ∀ W, (Instr.makeSlice 93 (.int .i64 (k : Int)) (.int .i64 (k : Int))).run Try.prog W = .ok (.slice (some ⟨W.heap.size, 0, none⟩) k k) (W.alloc (.cells (madeCells #[.int .i64 0, .int .i64 0] (k * 2)) 97)) := fun W => by
    have := run_make (P := Try.prog) W 93 97 i1 (.agg #[.int .i64 0, .int .i64 0]) Try.underlying93 hi1 hy0 .i64 .i64 (k : Int) (k : Int) (by omega) (Int.le_refl _) (by rw [hy2]; omega) (by omega)
    rw [this, hy1]
    simp [Value.cells]
  go_enter Try.func40, Try.ntmps40
  go_upto_region 3 with fail
  go_cut [4] from 12 to 18 (fun x wr => ∃ p : Nat, x = .pointer (some ⟨p, 0, none⟩) ∧ NewMidC k 0 p w wr)
  case first =>
    go_wp2_with fail
    go_region
    all_goals go_wp2_with fail
    all_goals go_meet
    all_goals
      refine ⟨_, rfl, _, _, fun _ => 0, fun _ => 0, fun _ => 0, ⟨sets_new (by simp), ?_, ?_, ?_, ?_, ?_⟩, fun i hi => by omega, ?_, ?_, ?_, ?_⟩
      · repeat (first | (refine made_ints ?_; simp; done) | refine IntsIn.alloc ?_ _)
      · repeat (first | (refine made_trees ?_; simp; done) | refine TreesIn.alloc ?_ _)
      · omega
      · omega
      · omega
      · omega
      · omega
      · omega
      · repeat (first | exact Below.refl _ _ | refine Below.drew ?_ | refine Below.alloc ?_ (by first | omega | (simp; done) | (simp; omega)) _)
  case rest =>
    obtain ⟨p, rfl, hmid⟩ := hcut
    have HMID := Nu.hid hmid
    clear hmid hm1 hm2
    go_wp2
    go_loopw [20] (fun c wr => ∃ j : Nat, j ≤ k ∧ c = .int .i64 (j : Int) ∧ NewMidC k j p w wr) (fun c _ => k - (intOf c).toNat)
    case atStart => exact ⟨0, Nat.zero_le _, rfl, HMID.out⟩
    case round =>
      obtain ⟨j, hj, rfl, gp, gt, P, S, L, hH, hall, b1, b2, b3, hb⟩ := hrel
      by_cases hlt : j < k
      · have hlti : (j : Int) < (k : Int) := by omega
        have hj0 : (0 : Int) ≤ (j : Int) := by omega
        obtain ⟨W, hW⟩ : ∃ W, W = wr.setCell ⟨gp, j, none⟩ (.int .i64 (j : Int)) := ⟨_, rfl⟩
        have q1 := hH.par.set (i := j) (by rw [Co.ints_length]; exact hlt) (j : Int)
        rw [Co.ints_set j hlt, ← hW] at q1
        have q2 : W.heap[p]? = wr.heap[p]? := by rw [hW]; exact heap_setCell_other wr ⟨gp, j, none⟩ p _ hH.d1
        have q3 : W.heap[gt]? = wr.heap[gt]? := by rw [hW]; exact heap_setCell_other wr ⟨gp, j, none⟩ gt _ (Ne.symm hH.d3)
        have T1 := hH.tre.same q3
        obtain ⟨T2, t1, t2⟩ := T1.put hlt 1 j
        have c0 := hH.c0
        have c1 : W.cell? ⟨p, 1, none⟩ = some (.slice (some ⟨gt, 0, none⟩) k k) := by simp [World.cell?, q2, hH.blk]
        have p0 := hH.par.cell (Co.ints_at (f := P) hlt)
        have pf := hH.par.free
        have tc := (T1.cell hlt).1
        have tf := T1.free
        obtain ⟨v1, v2⟩ := hH.tre.cell hlt
        have vf := hH.tre.free
        rw [show ((1 : Nat) : Int) = 1 from rfl] at t1 t2
        have HEND : Hid (NewMidC k (j + 1) p w ((W.setCell ⟨gt, j * 2, none⟩ (.int .i64 1)).setCell ⟨gt, j * 2 + 1, none⟩ (.int .i64 (j : Int)))) := by
          refine ⟨gp, gt, _, _, _, ⟨?_, (q1.other (i := j * 2) hH.d3 _).other (i := j * 2 + 1) hH.d3 _, T2, hH.d1, hH.d2, hH.d3⟩, fun i hi => ?_, b1, b2, b3, ?_⟩
          · rw [heap_setCell_other _ ⟨gt, j * 2 + 1, none⟩ p _ hH.d2, heap_setCell_other _ ⟨gt, j * 2, none⟩ p _ hH.d2, q2]
            exact hH.blk
          · by_cases e : i = j
            · subst e
              rw [Co.upd_same, Co.upd_same, Co.upd_same]
              exact ⟨rfl, rfl, rfl⟩
            · rw [Co.upd_other _ e, Co.upd_other _ e, Co.upd_other _ e]
              exact hall i (by omega)
          · rw [hW]
            exact ((hb.setCell (p := ⟨gp, j, none⟩) b2 _).setCell (p := ⟨gt, j * 2, none⟩) b3 _).setCell (p := ⟨gt, j * 2 + 1, none⟩) b3 _
        clear hH hall hb q1 q2 q3 T1 T2
        subst hW
        go_wp2
        go_roundw
        case rel => exact ⟨j + 1, by omega, by go_num, HEND.out⟩
        case measure => simp [intOf]; omega
      · have hd : ¬ ((j : Int) < (k : Int)) := by omega
        obtain rfl : j = k := by omega
        have HEND : Hid (SetsOf wr p gp gt j (fun x => x)) := by
          refine ⟨hkn, _, _, _, _, _, ?_, Co.forest_id j⟩
          rw [Co.cnt_id]
          refine ⟨hH.blk, ?_, hH.tre.congr (fun i hi => (hall i hi).2.1) (fun i hi => (hall i hi).2.2), hH.d1, hH.d2, hH.d3⟩
          rw [← Co.ints_congr (fun i hi => (hall i hi).1)]
          exact hH.par
        have HB := Nu.hid hb
        clear hH hall hb
        go_wp2
        go_ret2
        exact ⟨.inl ⟨j, p, gp, gt, rfl, hkn, rfl, HEND.out, b1, b2, b3⟩, HB.out⟩

end Go.Proofs.Ytfkmldopfhdbkaa

/-
  Numbers that lie at an address.
-/
namespace Go.Proofs.Ytfkmldopfhdbkaa
open Go.RowKit

/-- The numbers l lie at ao. -/
def IntsAt (w : World) (ao : Option Addr) (l : List Int) : Prop := ∀ (j : Nat) (x : Int), l[j]? = some x → ∃ b o : Nat, ao = some ⟨b, o, none⟩ ∧ w.cell? ⟨b, o + j, none⟩ = some (.int .i64 x)

theorem IntsAt.later {w w' : World} {ao : Option Addr} {l : List Int} (h : IntsAt w ao l) (hb : Below w.heap.size w w') : IntsAt w' ao l := fun j x hj => by
  obtain ⟨b, o, e, h0⟩ := h j x hj
  exact ⟨b, o, e, (hb.cell (p := ⟨b, o + j, none⟩) (block_lt_of_cell h0)).trans h0⟩

theorem IntsAt.nil (w : World) (ao : Option Addr) : IntsAt w ao [] := fun j p hj => by simp at hj

theorem IntsBlk.at {w : World} {g : Nat} {l : List Int} (h : IntsBlk w g l) : IntsAt w (some ⟨g, 0, none⟩) l := fun j x hj => ⟨g, 0, rfl, by rw [Nat.zero_add]; exact h.cell hj⟩

end Go.Proofs.Ytfkmldopfhdbkaa

/-
  Lists of ints of one's own.
-/
namespace Go.Proofs.Ytfkmldopfhdbkaa
open Go.RowKit

/-- v is a list of the ints l, in memory of its own, laid since block B. -/
def OwnZ (w : World) (B : Nat) (v : Value) (l : List Int) : Prop := w.ownsRow B 3 1 v l.length (l.map (Value.int .i64))

section
variable {w w' : World} {B : Nat} {v : Value} {l : List Int}
theorem OwnZ.nil (w : World) (B : Nat) : OwnZ w B (.slice none 0 0) [] := World.ownsRow_nil _ _ _ _
theorem OwnZ.form (h : OwnZ w B v l) : ∃ ao cap, v = .slice ao l.length cap ∧ IntsAt w ao l ∧ (∀ x, ao = some x → B ≤ x.block ∧ x.block < w.heap.size) := by
  rcases h.2 with ⟨rfl, h0⟩ | ⟨g, cap, cur, rfl, hB, hh, _⟩
  · refine ⟨none, 0, by rw [h0], fun j x hj => ?_, fun x hx => by cases hx⟩
    have := (List.getElem?_eq_some_iff.1 hj).1
    omega
  · refine ⟨_, _, rfl, fun j x hj => ?_, fun x hx => by cases hx; exact ⟨hB, lt_of_block hh⟩⟩
    refine ⟨g, 0, rfl, ?_⟩
    have := World.ownsRow.cells h (g := g) rfl j (.int .i64 x) (by rw [List.getElem?_map, hj]; rfl)
    have e : ((⟨g, 0, none⟩ : Addr).add j) = ⟨g, 0 + j, none⟩ := by
      by_cases h0 : j = 0 <;> simp [Addr.add, h0]
    rw [e] at this
    exact this
theorem OwnZ.same (h : OwnZ w B v l) (hb : ∀ g, v.ownBlock = some g → g < w.heap.size → w'.heap[g]? = w.heap[g]?) : OwnZ w' B v l := by
  refine ⟨h.1, ?_⟩
  rcases h.2 with h | ⟨g, cap, cur, e1, hgB, hh, hr⟩
  · exact .inl h
  · exact .inr ⟨g, cap, cur, e1, hgB, (hb g (by rw [e1]; rfl) (lt_of_block hh)).trans hh, hr⟩
theorem OwnZ.later (h : OwnZ w B v l) (hb : Below w.heap.size w w') : OwnZ w' B v l := h.same fun g _ hl => hb.block g hl
theorem OwnZ.lower {B' : Nat} (h : OwnZ w B v l) (hB : B' ≤ B) : OwnZ w B' v l := by
  refine ⟨h.1, ?_⟩
  rcases h.2 with h | ⟨g, cap, cur, e1, hgB, hr⟩
  · exact .inl h
  · exact .inr ⟨g, cap, cur, e1, Nat.le_trans hB hgB, hr⟩
theorem IntsBlk.own {g n : Nat} (h : IntsBlk w g l) (hB : B ≤ g) (hl : l.length = n) (hm : n ≤ 8388608) : OwnZ w B (.slice (some ⟨g, 0, none⟩) n n) l := by
  subst hl
  refine ⟨by simp, .inr ⟨g, _, _, rfl, hB, h, Nat.le_refl _, by unfold maxLen; omega, by simp, ?_⟩⟩
  rw [List.take_of_length_le (by simp)]
end

end Go.Proofs.Ytfkmldopfhdbkaa

/-
  The number of each number's set; the components of a graph; isolated vertices.
-/
namespace Go.Proofs.Ytfkmldopfhdbkaa
open Go.RowKit

namespace Co
/-- Is it the least of its set? -/
def fix (m : Nat → Nat) (i : Nat) : Bool := decide (m i = i)
/-- The number of a's set. -/
def num (m : Nat → Nat) (a : Nat) : Nat := cntTo (fix m) (m a)
theorem cnt_fix (n : Nat) (m : Nat → Nat) : cntTo (fix m) n = cnt n m := rfl
theorem num_self {m : Nat → Nat} {a : Nat} (h : m a = a) : num m a = cntTo (fix m) a := by unfold num; rw [h]
theorem num_least {n : Nat} {m : Nat → Nat} (hn : Norm n m) {a : Nat} (ha : a < n) : num m (m a) = num m a := by unfold num; rw [hn.idem a ha]
theorem fix_succ_yes {m : Nat → Nat} {a : Nat} (h : m a = a) : cntTo (fix m) (a + 1) = cntTo (fix m) a + 1 := by
  conv => lhs; unfold cntTo
  rw [if_pos (by simpa [fix] using h)]
theorem fix_succ_no {m : Nat → Nat} {a : Nat} (h : m a ≠ a) : cntTo (fix m) (a + 1) = cntTo (fix m) a := by
  conv => lhs; unfold cntTo
  rw [if_neg (by simpa [fix] using h)]
  rfl
theorem leastI_in {n : Nat} {m : Nat → Nat} {a : Nat} (h : a < n) : leastI n m (a : Int) = (m a : Int) := by
  unfold leastI
  rw [if_pos ⟨by omega, by omega⟩, Int.toNat_natCast]
theorem sizeI_in {n : Nat} {m : Nat → Nat} {a : Nat} (h : a < n) : sizeI n m (a : Int) = (size n m a : Int) := by
  unfold sizeI
  rw [if_pos ⟨by omega, by omega⟩, Int.toNat_natCast]
end Co

def NumPost (n : Nat) (m : Nat → Nat) (w : World) (e : Ending) (w' : World) : Prop :=
  ∃ v, e = .returned v ∧ OwnZ w' w.heap.size v (Co.ints n (Co.num m)) ∧ Below w.heap.size w w'

set_option maxRecDepth 100000 in
set_option maxHeartbeats 8000000 in
theorem numbered_any (v : Option Addr) (n : Nat) (m : Nat → Nat) (w : World) (h : IsSets w v n m) : Calls Try.prog 42 #[.pointer v] w (NumPost n m w) := by
  obtain ⟨i0, hi, hz0, hz1, hz2⟩ := info_parts Try.infoNum
  have hn := h.bound
  have HNORM := Nu.hid h.norm
  have hle : ∀ W a, a < n → Below w.heap.size w W → Calls Try.prog 62 #[.pointer v, .int .i64 (a : Int)] W fun e w' => e = .returned (.int .i64 (m a : Int)) ∧ ∃ k, w' = W.drewN k := fun W a ha hb => by
    have := least_any v n m a W (h.later hb)
    rw [Co.leastI_in ha] at this
    exact this
  have HLE := Nu.hid hle
  clear hle
  rcases h with ⟨rfl, rfl⟩ | ⟨p, gp, gt, rfl, -, P, S, L, r, d, h, -⟩
  · go_enter Try.func42, Try.ntmps42
    go_wp2
    go_ret
    exact ⟨_, rfl, OwnZ.nil _ _, Below.refl _ _⟩
  · have c0 := h.c0
    clear h
    go_enter Try.func42, Try.ntmps42
    go_wp2_with (at_make; refine wpList_make_full _ rfl _ _ 36 rfl w.heap.size 3 i0 (.int .i64 0) 1 Try.underlying36 hi hz0 hz1 _ _ _ _ n rfl rfl rfl rfl (by rw [hz2]; omega) (by unfold maxLen; omega) (Nat.le_refl _) ?_; refine Hid.out ?_)
    refine Nu.hid ?_
    intro w2 hrow hg2
    rw [made_zeros] at hrow
    have hik := ints_of_row hrow
    rw [← Co.ints_zero] at hik
    have hb2 : Below w.heap.size w w2 := (Below.refl _ _).grown hg2 (Nat.le_refl _) (fun j hj => by cases hj)
    have HI2 := Nu.hid hik
    have HB2 := Nu.hid hb2
    clear hrow hg2 hik hb2
    go_wp2
    go_loopw [4, 17] (fun s c wr => ∃ (k : Nat) (F : Nat → Nat), k ≤ n ∧ c = .int .i64 (k : Int) ∧ s = .int .i64 (Co.cntTo (Co.fix m) k : Int) ∧ (∀ i, i < k → F i = Co.num m i) ∧ IntsBlk wr w.heap.size (Co.ints n F) ∧ Below w.heap.size w wr) (fun _ c _ => n - (intOf c).toNat)
    case atStart => exact ⟨0, _, Nat.zero_le _, rfl, rfl, fun i hi => by omega, HI2.out, HB2.out⟩
    case round =>
      obtain ⟨k, F, hk, rfl, rfl, hF, hiS, hb⟩ := hrel
      have hcl := Co.cntTo_le (Co.fix m) k
      by_cases hkn : k < n
      · have hk0 : (0 : Int) ≤ (k : Int) := by omega
        have hk1 : (k : Int) < (n : Int) := by omega
        have HL := Nu.hid (HLE.out wr k hkn hb)
        have HF := Nu.hid hF
        have HIS := Nu.hid hiS
        have HB := Nu.hid hb
        clear hF hiS hb
        by_cases hf : m k = k
        · have hd : ((m k : Int) == (k : Int)) = true := by simp [hf]
          have hsucc := Co.fix_succ_yes hf
          have hnum := Co.num_self hf
          have HSU := Nu.hid hsucc
          have HNU := Nu.hid hnum
          obtain ⟨z, hz⟩ : ∃ z, Co.cntTo (Co.fix m) k = z := ⟨_, rfl⟩
          rw [hz] at hcl HSU HNU ⊢
          clear hsucc hnum hz hf
          go_wp2_with (go_at_call 62; refine HL.out.mono ?_; rintro e w3 ⟨rfl, q, hw3⟩; have HW3 := Nu.hid hw3; clear hw3; refine Hid.out ?_)
          refine Nu.hid ?_
          have i3 : IntsBlk w3 w.heap.size (Co.ints n F) := by rw [HW3.out]; exact HIS.out
          have b3 : Below w.heap.size w w3 := by rw [HW3.out]; exact below_drewN HB.out q
          have cx := i3.cell (Co.ints_at (f := F) hkn)
          have cf := i3.free
          have n1 := i3.set k (z : Int)
          rw [Co.ints_set z hkn] at n1
          have HN1 := Nu.hid n1
          have HB3 := Nu.hid (b3.setCell (p := ⟨w.heap.size, k, none⟩) (Nat.le_refl _) (.int .i64 (z : Int)))
          clear i3 b3 n1
          go_wp2
          go_roundw
          case rel =>
            refine ⟨k + 1, _, by omega, by go_num, by rw [HSU.out]; go_num, fun i hi => ?_, HN1.out, HB3.out⟩
            by_cases e : i = k
            · subst e; rw [Co.upd_same, HNU.out]
            · rw [Co.upd_other _ e]; exact HF.out i (by omega)
          case measure => simp [intOf]; omega
        · have hd : ((m k : Int) == (k : Int)) = false := by simp; omega
          have hml := HNORM.out.le k hkn
          have hmk : m k < k := by omega
          have hsucc := Co.fix_succ_no hf
          have HSU := Nu.hid hsucc
          have hnum := Co.num_least HNORM.out hkn
          have hfm := HF.out (m k) hmk
          rw [hnum] at hfm
          have HFM := Nu.hid hfm
          obtain ⟨z, hz⟩ : ∃ z, Co.cntTo (Co.fix m) k = z := ⟨_, rfl⟩
          rw [hz] at hcl HSU ⊢
          obtain ⟨y, hy⟩ : ∃ y, m k = y := ⟨_, rfl⟩
          rw [hy] at hmk HL hd HFM
          have y0 : (0 : Int) ≤ (y : Int) := by omega
          have y1 : (y : Int) < (n : Int) := by omega
          clear hsucc hnum hfm hz hf hy hml
          go_wp2_with (go_at_call 62; refine HL.out.mono ?_; rintro e w3 ⟨rfl, q, hw3⟩; have HW3 := Nu.hid hw3; clear hw3; refine Hid.out ?_)
          refine Nu.hid ?_
          have i3 : IntsBlk w3 w.heap.size (Co.ints n F) := by rw [HW3.out]; exact HIS.out
          have b3 : Below w.heap.size w w3 := by rw [HW3.out]; exact below_drewN HB.out q
          have cx := i3.cell (Co.ints_at (f := F) hkn)
          have cy := i3.cell (Co.ints_at (f := F) (show y < n by omega))
          have cf := i3.free
          have n1 := i3.set k (F y : Int)
          rw [Co.ints_set (F y) hkn] at n1
          have HN1 := Nu.hid n1
          have HB3 := Nu.hid (b3.setCell (p := ⟨w.heap.size, k, none⟩) (Nat.le_refl _) (.int .i64 (F y : Int)))
          clear i3 b3 n1
          go_wp2
          go_roundw
          case rel =>
            refine ⟨k + 1, _, by omega, by go_num, by rw [HSU.out], fun i hi => ?_, HN1.out, HB3.out⟩
            by_cases e : i = k
            · subst e; rw [Co.upd_same, HFM.out]
            · rw [Co.upd_other _ e]; exact HF.out i (by omega)
          case measure => simp [intOf]; omega
      · have hd : ¬ ((k : Int) < (n : Int)) := by omega
        obtain rfl : k = n := by omega
        rw [Co.ints_congr hF] at hiS
        have HIS := Nu.hid hiS
        have HB := Nu.hid hb
        clear hF hiS hb
        go_wp2
        go_ret
        exact ⟨_, rfl, HIS.out.own (Nat.le_refl _) (Co.ints_length _ _) (by omega), HB.out⟩

end Go.Proofs.Ytfkmldopfhdbkaa

/-
  Faces, pure: the genera of the components sum up to the genus of the whole.
-/
namespace Go.Proofs.Ytfkmldopfhdbkaa
namespace Fa
open Pl Co

/-- The sum of the first values. -/
def sumZ (f : Nat → Int) : Nat → Int
  | 0 => 0
  | n + 1 => sumZ f n + f n
theorem sumZ_congr {f g : Nat → Int} : ∀ n, (∀ i, i < n → f i = g i) → sumZ f n = sumZ g n
  | 0, _ => rfl
  | n + 1, h => by
    show sumZ f n + f n = sumZ g n + g n
    rw [sumZ_congr n (fun i hi => h i (by omega)), h n (by omega)]
theorem sumZ_add (f g : Nat → Int) : ∀ n, sumZ (fun i => f i + g i) n = sumZ f n + sumZ g n
  | 0 => rfl
  | n + 1 => by
    show sumZ (fun i => f i + g i) n + (f n + g n) = sumZ f n + f n + (sumZ g n + g n)
    rw [sumZ_add f g n]
    omega
theorem sumZ_mul (c : Int) (f : Nat → Int) : ∀ n, sumZ (fun i => c * f i) n = c * sumZ f n
  | 0 => by simp [sumZ]
  | n + 1 => by
    show sumZ (fun i => c * f i) n + c * f n = c * (sumZ f n + f n)
    rw [sumZ_mul c f n, Int.mul_add]
theorem sumZ_zero {f : Nat → Int} : ∀ n, (∀ i, i < n → f i = 0) → sumZ f n = 0
  | 0, _ => rfl
  | n + 1, h => by
    show sumZ f n + f n = 0
    rw [sumZ_zero n (fun i hi => h i (by omega)), h n (by omega)]
    rfl
theorem sumZ_one {c : Int} {x : Nat} : ∀ n, x < n → sumZ (fun i => if i = x then c else 0) n = c
  | 0, h => by omega
  | n + 1, h => by
    show sumZ (fun i => if i = x then c else 0) n + (if n = x then c else 0) = c
    by_cases e : n = x
    · rw [if_pos e, sumZ_zero n (fun i hi => by rw [if_neg (by omega)])]
      omega
    · rw [if_neg e, sumZ_one n (by omega)]
      omega
theorem sumZ_cnt (p : Nat → Bool) : ∀ n, sumZ (fun i => if p i = true then 1 else 0) n = (cntTo p n : Int)
  | 0 => rfl
  | n + 1 => by
    show sumZ (fun i => if p i = true then 1 else 0) n + (if p n = true then 1 else 0) = ((cntTo p n + if p n = true then 1 else 0 : Nat) : Int)
    rw [sumZ_cnt p n]
    split <;> simp

theorem cntTo_all : ∀ n, cntTo (fun _ => true) n = n
  | 0 => rfl
  | n + 1 => by
    show cntTo (fun _ => true) n + 1 = n + 1
    rw [cntTo_all n]

/-- Each is counted in its set. -/
theorem sumZ_fib {N : Nat} {m : Nat → Nat} (hm : Norm N m) {p : Nat → Bool} {g : Nat → Nat} : ∀ K, (∀ x, x < K → p x = true → g x < N) → sumZ (fun r => if fix m r = true then (cntTo (fun x => p x && decide (m (g x) = r)) K : Int) else 0) N = (cntTo p K : Int)
  | 0, _ => sumZ_zero N fun i _ => by split <;> rfl
  | K + 1, h => by
    have ih := sumZ_fib hm (p := p) (g := g) K (fun x hx => h x (by omega))
    have e : ∀ r, (if fix m r = true then ((cntTo (fun x => p x && decide (m (g x) = r)) (K + 1) : Nat) : Int) else 0) = (if fix m r = true then ((cntTo (fun x => p x && decide (m (g x) = r)) K : Nat) : Int) else 0) + (if r = m (g K) then (if p K = true ∧ fix m (m (g K)) = true then 1 else 0) else 0) := fun r => by
      have e0 : cntTo (fun x => p x && decide (m (g x) = r)) (K + 1) = cntTo (fun x => p x && decide (m (g x) = r)) K + if (p K && decide (m (g K) = r)) = true then 1 else 0 := rfl
      rw [e0]
      by_cases h1 : r = m (g K)
      · subst h1
        by_cases h2 : p K = true <;> by_cases h3 : fix m (m (g K)) = true <;> simp [h2, h3]
      · have : ¬ m (g K) = r := fun e => h1 e.symm
        by_cases h3 : fix m r = true <;> simp [h1, h3, this]
    rw [sumZ_congr N (fun r _ => e r), sumZ_add, ih]
    have e3 : cntTo p (K + 1) = cntTo p K + if p K = true then 1 else 0 := rfl
    rw [e3]
    by_cases h2 : p K = true
    · have hg := h K (by omega) h2
      have hf : fix m (m (g K)) = true := by
        unfold fix
        rw [hm.idem _ hg]
        simp
      rw [sumZ_one N (hm.lt hg)]
      simp [h2, hf]
    · rw [sumZ_zero N (fun i _ => by simp [h2])]
      simp [h2]

/-- Sums over the sets, by their numbers. -/
theorem sumZ_num {m : Nat → Nat} (F : Nat → Int) : ∀ N, sumZ (fun r => if fix m r = true then F (cntTo (fix m) r) else 0) N = sumZ F (cntTo (fix m) N)
  | 0 => rfl
  | N + 1 => by
    show sumZ (fun r => if fix m r = true then F (cntTo (fix m) r) else 0) N + (if fix m N = true then F (cntTo (fix m) N) else 0) = sumZ F (cntTo (fix m) N + if fix m N = true then 1 else 0)
    rw [sumZ_num F N]
    by_cases h : fix m N = true
    · rw [if_pos h, if_pos h]
      rfl
    · rw [if_neg h, if_neg h]
      simp

theorem fix_mono {m : Nat → Nat} {a b : Nat} (h : a < b) (ha : fix m a = true) : cntTo (fix m) a < cntTo (fix m) b := by
  induction b with
  | zero => omega
  | succ b ih =>
    have e : cntTo (fix m) (b + 1) = cntTo (fix m) b + if fix m b = true then 1 else 0 := rfl
    rw [e]
    by_cases hab : a = b
    · subst hab
      rw [if_pos ha]
      omega
    · have := ih (by omega)
      omega
/-- Sets have different numbers. -/
theorem num_eq {N : Nat} {m : Nat → Nat} (hm : Norm N m) {v r : Nat} (hv : v < N) (hr : fix m r = true) : num m v = cntTo (fix m) r ↔ m v = r := by
  constructor
  · intro e
    unfold num at e
    have hf : fix m (m v) = true := by
      unfold fix
      rw [hm.idem v hv]
      simp
    rcases Nat.lt_trichotomy (m v) r with h | h | h
    · have := fix_mono h hf
      omega
    · exact h
    · have := fix_mono h hr
      omega
  · intro e
    unfold num
    rw [e]
theorem num_lt {N : Nat} {m : Nat → Nat} (hm : Norm N m) {v : Nat} (hv : v < N) : num m v < cntTo (fix m) N := by
  unfold num
  refine fix_mono (hm.lt hv) ?_
  unfold fix
  rw [hm.idem v hv]
  simp

/-- The genus by numbers of vertices, edges and faces. -/
def gen (a b c : Nat) : Int := if b = 0 then 0 else ((2 : Int) - a + b - c).tdiv 2

/-- By the component's number. -/
def cV (N : Nat) (es : List (Int × Int)) (j : Nat) (k : Nat) : Nat := cntTo (fun v => decide (num (cp N es) v = j)) k
def cE (N : Nat) (es : List (Int × Int)) (j : Nat) (k : Nat) : Nat := cntTo (fun e => decide (num (cp N es) (Cs.fr es (2 * e)) = j)) k
def cF (N : Nat) (es : List (Int × Int)) (m : Nat → Nat) (j : Nat) (k : Nat) : Nat := cntTo (fun x => decide (m x = x) && decide (num (cp N es) (Cs.fr es x) = j)) k

section
variable {N : Nat} {es : List (Int × Int)} {ls : List (List Int)} {m : Nat → Nat}

/-- The genera sum up. -/
theorem genus_sum (h : Ro.Rot N es ls) (hm : Orb (2 * es.length) (ph es ls) m) : ∃ g : Nat, sumZ (fun j => gen (cV N es j N) (cE N es j es.length) (cF N es m j (2 * es.length))) (cnt N (cp N es)) = (g : Int) ∧ cnt (2 * es.length) m + lonely N es + N + 2 * g = 2 * cnt N (cp N es) + es.length ∧ g + N ≤ es.length + cnt N (cp N es) := by
  have hv := val_of h
  have hn := (cp_gen (N := N) (es := es)).norm
  obtain ⟨g, hg, hg2⟩ := euler h hm
  refine ⟨g, ?_, hg, hg2⟩
  have hc : ∀ r, r < N → fix (cp N es) r = true → cV N es (cntTo (fix (cp N es)) r) N = nV N es r ∧ cE N es (cntTo (fix (cp N es)) r) es.length = nE N es r ∧ cF N es m (cntTo (fix (cp N es)) r) (2 * es.length) = nF N es m r := fun r hr hf => by
    refine ⟨cntTo_congr _ fun v hvn => ?_, cntTo_congr _ fun e he => ?_, cntTo_congr _ fun x hx => ?_⟩
    · rw [Bool.eq_iff_iff, decide_eq_true_iff, decide_eq_true_iff]
      exact num_eq hn hvn hf
    · rw [Bool.eq_iff_iff, decide_eq_true_iff, decide_eq_true_iff]
      exact num_eq hn (fr_in hv (by omega)) hf
    · have := num_eq hn (fr_in hv hx) hf
      simp only [this]
  rw [← cnt_fix, ← sumZ_num]
  have two : 2 * sumZ (fun r => if fix (cp N es) r = true then gen (cV N es (cntTo (fix (cp N es)) r) N) (cE N es (cntTo (fix (cp N es)) r) es.length) (cF N es m (cntTo (fix (cp N es)) r) (2 * es.length)) else 0) N
      = sumZ (fun r => ((((2 * (if fix (cp N es) r = true then (1 : Int) else 0)) + (-1) * (if fix (cp N es) r = true then (nV N es r : Int) else 0)) + (if fix (cp N es) r = true then (nE N es r : Int) else 0)) + (-1) * (if fix (cp N es) r = true then (nF N es m r : Int) else 0)) + (-1) * (if (!met es r) = true then (1 : Int) else 0)) N := by
    rw [← sumZ_mul]
    refine sumZ_congr N fun r hr => ?_
    by_cases hf : fix (cp N es) r = true
    · obtain ⟨c1, c2, c3⟩ := hc r hr hf
      have hfe : cp N es r = r := by unfold fix at hf; exact of_decide_eq_true hf
      have ha := comp_alone h (m := m) hr hfe
      simp only [if_pos hf, c1, c2, c3]
      unfold gen
      by_cases he : nE N es r = 0
      · have hme := ha.1.1 he
        obtain ⟨k1, k2⟩ := ha.2 he
        rw [if_pos he, he, k1, k2, hme]
        simp
      · have hme : met es r = true := by
          cases hmr : met es r with
          | true => rfl
          | false => exact absurd (ha.1.2 hmr) he
        have hev := comp_even h hm he
        rw [if_neg he, hme]
        have e2 : ((2 : Int) - (nV N es r : Int) + (nE N es r : Int) - (nF N es m r : Int)) % 2 = 0 := by omega
        have e3 := Int.mul_tdiv_cancel' (Int.dvd_of_emod_eq_zero e2)
        rw [e3]
        simp
        omega
    · have hme : met es r = true := by
        cases hmr : met es r with
        | true => rfl
        | false =>
          exfalso
          apply hf
          unfold fix
          rw [decide_eq_true_iff]
          exact (alone hmr hr).2 rfl
      simp [hf, hme]
  rw [sumZ_add, sumZ_add, sumZ_add, sumZ_add, sumZ_mul, sumZ_mul, sumZ_mul, sumZ_mul, sumZ_cnt, sumZ_cnt] at two
  have s1 : sumZ (fun r => if fix (cp N es) r = true then (nV N es r : Int) else 0) N = (N : Int) := by
    have := sumZ_fib hn (p := fun _ => true) (g := fun v => v) N (fun x hx _ => hx)
    have e := cntTo_all N
    rw [e] at this
    rw [← this]
    refine sumZ_congr N fun r _ => ?_
    unfold nV
    simp only [Bool.true_and]
  have s2 : sumZ (fun r => if fix (cp N es) r = true then (nE N es r : Int) else 0) N = (es.length : Int) := by
    have := sumZ_fib hn (p := fun _ => true) (g := fun e => Cs.fr es (2 * e)) es.length (fun x hx _ => fr_in hv (by omega))
    have e := cntTo_all es.length
    rw [e] at this
    rw [← this]
    refine sumZ_congr N fun r _ => ?_
    unfold nE
    simp only [Bool.true_and]
  have s3 : sumZ (fun r => if fix (cp N es) r = true then (nF N es m r : Int) else 0) N = (cnt (2 * es.length) m : Int) := by
    have := sumZ_fib hn (p := fun x => decide (m x = x)) (g := fun x => Cs.fr es x) (2 * es.length) (fun x hx _ => fr_in hv hx)
    exact this
  rw [s1, s2, s3] at two
  have e1 : cntTo (fun v => !met es v) N = lonely N es := rfl
  have e2 := cnt_fix N (cp N es)
  rw [e1, e2] at two
  omega
end
end Fa
end Go.Proofs.Ytfkmldopfhdbkaa
