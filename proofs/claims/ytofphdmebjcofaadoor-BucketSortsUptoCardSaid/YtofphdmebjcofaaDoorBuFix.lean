/-
  That the fixed fact of layer 6's statements is true.
-/
import Derived.Test.YtofphdmebjcofaaDoorBuStr
import Derived.Test.YtofphdmebjcofaaDoorBuGrp
import Derived.Test.YtofphdmebjcofaaDoorSiSameI
namespace Go.Proofs.YtofphdmebjcofaaDoor
open Go.RowKit Go.Sort

theorem wlen_enters : ∀ (args : Array Value) (w : World), (callFunc 12 args).run Tryd.prog w = .ok (.enter 12 args) w := enters_of Tryd.func12 (by kernel_rfl) rfl

theorem wlen_any (x : ByteArray) (w : World) : Calls Tryd.prog 12 (#[.string x] ++ #[]) w fun e w' => e = .returned (.int .i64 (x.size : Int)) ∧ Below w.heap.size w w' := by
  show Calls Tryd.prog 12 #[.string x] w _
  go_enter Tryd.func12, Tryd.ntmps12
  go_wp2
  go_ret
  exact ⟨rfl, Below.refl _ _⟩

namespace Fix
def ks : List Int := [2, 0, 2, 1]
def xs : List ByteArray := [⟨#[98, 98]⟩, ⟨#[97]⟩, ⟨#[99, 99]⟩, ⟨#[100]⟩]
def zs : List Int := [2, 1, 2, 1]
def gs : List Int := [2, 0, 2]
theorem fault1 : Bu.fault 2 ks = 0 := by decide
theorem ranks1 : Bu.ranks ks = [2, 0, 3, 1] := by decide
theorem zs_eq : zs = xs.map fun x => (x.size : Int) := by decide
theorem fault2 : Bu.fault 2 zs = 0 := by decide
theorem fault3 : Bu.fault 3 gs = 0 := by decide
theorem grp2 : Bu.grp gs ((2 : Nat) : Int) = [0, 2] := by decide
theorem rk0 : Bu.rk zs 0 = 2 := by decide
theorem rk1 : Bu.rk zs 1 = 0 := by decide
theorem rk2 : Bu.rk zs 2 = 3 := by decide
theorem rk3 : Bu.rk zs 3 = 1 := by decide
theorem small : ∀ x ∈ xs, x.size ≤ 100 := by decide
theorem sorted {S : List ByteArray} (h : Bu.Sorted zs xs S) : S[0]? = some ⟨#[97]⟩ ∧ S[1]? = some ⟨#[100]⟩ ∧ S[2]? = some ⟨#[98, 98]⟩ ∧ S[3]? = some ⟨#[99, 99]⟩ := by
  have h0 := h.put 0 (by decide)
  have h1 := h.put 1 (by decide)
  have h2 := h.put 2 (by decide)
  have h3 := h.put 3 (by decide)
  rw [rk0] at h0
  rw [rk1] at h1
  rw [rk2] at h2
  rw [rk3] at h3
  exact ⟨h1, h3, h0, h2⟩
end Fix

set_option maxRecDepth 100000 in
set_option maxHeartbeats 8000000 in
theorem wakes_any (w : World) : Calls Tryd.prog 4 #[] w fun e w' => e = .returned (.bool true) ∧ Below w.heap.size w w' := by
  have hr : ∀ W, Calls Tryd.prog 10 #[.slice (some ⟨W.heap.size, 0, none⟩) 4 4, .int .i64 2] (W.alloc (.cells #[.int .i64 2, .int .i64 0, .int .i64 2, .int .i64 1] 3)) fun e w' => ∃ g, e = .returned (.tuple #[.slice (some ⟨g, 0, none⟩) 4 4, .int .i64 0]) ∧ IntsBlk w' g [2, 0, 3, 1] ∧ Below W.heap.size W w' := fun W => by
    have hb0 : Below W.heap.size W (W.alloc (.cells #[.int .i64 2, .int .i64 0, .int .i64 2, .int .i64 1] 3)) := (Below.refl _ _).alloc (Nat.le_refl _) _
    have hI : IntsBlk (W.alloc (.cells #[.int .i64 2, .int .i64 0, .int .i64 2, .int .i64 1] 3)) W.heap.size Fix.ks := heap_alloc_new W _
    refine (branks_any 2 _ 4 4 Fix.ks _ (by omega) (hI.lst rfl)).mono ?_
    rintro e w' ⟨⟨h1, _⟩ | ⟨_, g, h2, h3, h4⟩, hb⟩
    · exact absurd Fix.fault1 h1
    · rw [Fix.ranks1] at h4
      exact ⟨g, h2, h4, hb0.trans (hb.mono hb0.size)⟩
  have hs : ∀ W, Calls Tryd.prog 11 #[.slice (some ⟨W.heap.size, 0, none⟩) 4 4, .func (.func 12) #[] #[], .int .i64 2] (W.alloc (.cells #[.string ⟨#[98, 98]⟩, .string ⟨#[97]⟩, .string ⟨#[99, 99]⟩, .string ⟨#[100]⟩] 9)) fun e w' => ∃ g, e = .returned (.tuple #[.slice (some ⟨g, 0, none⟩) 4 4, .int .i64 0]) ∧ (∃ S, StrsBlk w' g S ∧ Bu.Sorted Fix.zs Fix.xs S) ∧ Below W.heap.size W w' := fun W => by
    have hb0 : Below W.heap.size W (W.alloc (.cells #[.string ⟨#[98, 98]⟩, .string ⟨#[97]⟩, .string ⟨#[99, 99]⟩, .string ⟨#[100]⟩] 9)) := (Below.refl _ _).alloc (Nat.le_refl _) _
    have hI : StrsBlk (W.alloc (.cells #[.string ⟨#[98, 98]⟩, .string ⟨#[97]⟩, .string ⟨#[99, 99]⟩, .string ⟨#[100]⟩] 9)) W.heap.size Fix.xs := heap_alloc_new W _
    refine (sortstr_any 12 #[] (fun x => (x.size : Int)) 2 _ 4 4 Fix.xs Fix.zs _ (by omega) ⟨rfl, hI.at, _, rfl⟩ Fix.zs_eq wlen_enters (fun W2 x _ _ => wlen_any x W2)).mono ?_
    rintro e w' ⟨⟨h1, _⟩ | ⟨_, g, S, h2, h3, h4, h5⟩, hb⟩
    · exact absurd Fix.fault2 h1
    · exact ⟨g, h2, ⟨S, h4, h5⟩, hb0.trans (hb.mono hb0.size)⟩
  have hg : ∀ W, Calls Tryd.prog 13 #[.slice (some ⟨W.heap.size, 0, none⟩) 3 3, .int .i64 3] (W.alloc (.cells #[.int .i64 2, .int .i64 0, .int .i64 2] 3)) fun e w' => ∃ g c ao ca, e = .returned (.tuple #[.slice (some ⟨g, 0, none⟩) 4 c, .int .i64 0]) ∧ w'.cell? ⟨g, 2, none⟩ = some (.slice ao 2 ca) ∧ Below W.heap.size W w' := fun W => by
    have hb0 : Below W.heap.size W (W.alloc (.cells #[.int .i64 2, .int .i64 0, .int .i64 2] 3)) := (Below.refl _ _).alloc (Nat.le_refl _) _
    have hI : IntsBlk (W.alloc (.cells #[.int .i64 2, .int .i64 0, .int .i64 2] 3)) W.heap.size Fix.gs := heap_alloc_new W _
    refine (group_any 3 _ 3 3 Fix.gs _ (by omega) (hI.lst rfl)).mono ?_
    rintro e w' ⟨⟨h1, _⟩ | ⟨_, v, vs, h2, h3⟩, hb⟩
    · exact absurd Fix.fault3 h1
    · have e4 : ((3 : Int) + 1).toNat = 4 := rfl
      rw [e4] at h3
      have hl := Bu.groups_length Fix.gs 4
      obtain ⟨x, hx⟩ := h3.at' (Bu.groups_at Fix.gs (K := 4) (k := 2) (by omega))
      have hr := h3.row 2 x _ hx (Bu.groups_at Fix.gs (K := 4) (k := 2) (by omega))
      rw [Fix.grp2] at hr
      obtain ⟨ao, ca, rfl, -, -⟩ := hr.form
      have ho := h3.outer
      rw [hl] at ho
      rcases ho.2 with ⟨_, h0⟩ | ⟨g, cap, cur, rfl, _⟩
      · omega
      · have cx := World.ownsRow.cells ho (g := g) rfl 2 _ hx
        exact ⟨g, cap, ao, ca, h2, cx, hb0.trans (hb.mono hb0.size)⟩
  have HR := Nu.hid hr
  have HS := Nu.hid hs
  have HG := Nu.hid hg
  clear hr hs hg
  go_enter Tryd.func4, Tryd.ntmps4
  go_wp2_with (go_at_call 10; refine (HR.out _).mono ?_; rintro e w1 ⟨g1, rfl, hi1, hb1⟩; have HI1 := Nu.hid hi1; have HB1 := Nu.hid hb1; clear hi1 hb1; refine Hid.out ?_)
  refine Nu.hid ?_
  go_wp2_with (go_at_call 11; refine (HS.out _).mono ?_; rintro e w2 ⟨g2, rfl, ⟨S, hS, hsort⟩, hb2⟩; have HSS := Nu.hid hS; have HSORT := Nu.hid hsort; have HB2 := Nu.hid hb2; clear hS hsort hb2; refine Hid.out ?_)
  refine Nu.hid ?_
  go_wp2_with (go_at_call 13; refine (HG.out _).mono ?_; rintro e w3 ⟨g3, c3, ao3, ca3, rfl, hc3, hb3⟩; have HC3 := Nu.hid hc3; have HB3 := Nu.hid hb3; clear hc3 hb3; refine Hid.out ?_)
  refine Nu.hid ?_
  have HBW := Nu.hid ((HB1.out.trans (HB2.out.mono HB1.out.size)).trans (HB3.out.mono (Nat.le_trans HB1.out.size HB2.out.size)))
  have HI3 := Nu.hid ((HI1.out.later HB2.out).later HB3.out)
  have hS3 := HSS.out.later HB3.out
  obtain ⟨s0, s1, s2, s3⟩ := Fix.sorted HSORT.out
  have HI : Hid (Calls Tryd.prog 14 #[.slice (some ⟨g1, 0, none⟩) 4 4, .slice (some ⟨w3.heap.size, 0, none⟩) 4 4] (w3.alloc (.cells #[.int .i64 2, .int .i64 0, .int .i64 3, .int .i64 1] 3)) fun e w' => e = .returned (.bool true) ∧ Below w3.heap.size w3 w') := by
    have hb : Below w3.heap.size w3 (w3.alloc (.cells #[.int .i64 2, .int .i64 0, .int .i64 3, .int .i64 1] 3)) := (Below.refl _ _).alloc (Nat.le_refl _) _
    have hI : IntsBlk (w3.alloc (.cells #[.int .i64 2, .int .i64 0, .int .i64 3, .int .i64 1] 3)) w3.heap.size [2, 0, 3, 1] := heap_alloc_new w3 _
    refine (sameints_any _ _ 4 4 4 4 [2, 0, 3, 1] [2, 0, 3, 1] _ rfl rfl (HI3.out.later hb).at hI.at (by omega)).mono ?_
    rintro e w' ⟨h1, h2⟩
    exact ⟨by rw [h1]; rfl, hb.trans (h2.mono hb.size)⟩
  clear HR HS HG HI1 HSS HSORT HI3
  have HC0 := Nu.hid (hS3.cell s0)
  have HC1 := Nu.hid (hS3.cell s1)
  have HC2 := Nu.hid (hS3.cell s2)
  have HC3' := Nu.hid (hS3.cell s3)
  clear hS3 s0 s1 s2 s3
  go_wp2_with (go_at_call 14; refine HI.out.mono ?_; rintro e w4 ⟨rfl, hb4⟩; have HB4 := Nu.hid hb4; have d0 := (HB4.out.cell (p := ⟨g2, 0, none⟩) (block_lt_of_cell HC0.out)).trans HC0.out; have d1 := (HB4.out.cell (p := ⟨g2, 1, none⟩) (block_lt_of_cell HC1.out)).trans HC1.out; have d2 := (HB4.out.cell (p := ⟨g2, 2, none⟩) (block_lt_of_cell HC2.out)).trans HC2.out; have d3 := (HB4.out.cell (p := ⟨g2, 3, none⟩) (block_lt_of_cell HC3'.out)).trans HC3'.out; have d4 := (HB4.out.cell (p := ⟨g3, 2, none⟩) (block_lt_of_cell HC3.out)).trans HC3.out; clear hb4)
  go_ret
  exact ⟨rfl, HBW.out.trans (HB4.out.mono HBW.out.size)⟩

end Go.Proofs.YtofphdmebjcofaaDoor
