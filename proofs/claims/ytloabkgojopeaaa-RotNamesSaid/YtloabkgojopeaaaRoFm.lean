/-
  From: rotations told by vertices, of any graph and lists.
-/
import Derived.Test.YtloabkgojopeaaaRoV
import Derived.Test.YtloabkgojopeaaaMg05
import Derived.Test.YtloabkgojopeaaaRoROf
namespace Go.Proofs.Ytloabkgojopeaaa
open Go.RowKit Go.Sort

/-- What the reading leaves: the lists in the box, or the box as it was. -/
def Fr1Post (n : Int) (es : List (Int × Int)) (ls : List (List Int)) (b : Nat) (w : World) (e : Ending) (w' : World) : Prop :=
  Wrote (fun k => k = b) w w' ∧ (((Ro.check n es (Ro.hls es 0 ls)).2 = 0 ∧ e = .returned (.tuple #[]) ∧ ∃ r rs, w'.heap[b]? = some (.cells #[r] 24 (0, 0)) ∧ RowsZ w' w.heap.size r rs (Ro.hls es 0 ls)) ∨
    ((Ro.check n es (Ro.hls es 0 ls)).2 ≠ 0 ∧ e = .panicked [{ v := rfaultV (Ro.check n es (Ro.hls es 0 ls)).1 (Ro.check n es (Ro.hls es 0 ls)).2, recovered := false }] ∧ w'.heap[b]? = some (.cells #[.slice none 0 0] 24 (0, 0))))

set_option maxRecDepth 100000 in
set_option maxHeartbeats 4000000 in
theorem from1_any (n : Int) (ao : Option Addr) (ca : Nat) (es : List (Int × Int)) (xo : Option Addr) (xc : Nat) (ls : List (List Int)) (b : Nat) (w : World) (he : EdgesAt w ao es) (hl : es.length ≤ 4611686018427387904) (hx : RwsAt w xo ls)
    (hg : w.heap[b]? = some (.cells #[.int .i64 n, .slice ao es.length ca] 30 (0, 0))) (hr : w.heap[b + 1]? = some (.cells #[.slice xo ls.length xc] 23 (0, 0))) (hbx : w.heap[b + 2]? = some (.cells #[.slice none 0 0] 24 (0, 0))) :
    Calls Try.prog 31 #[.pointer (some ⟨b, 0, none⟩), .pointer (some ⟨b + 1, 0, none⟩), .pointer (some ⟨b + 2, 0, none⟩)] w (Fr1Post n es ls (b + 2) w) := by
  obtain ⟨g0, g1, -⟩ := pair_cells hg
  have r0 := cell_of_one hr
  have HH := Nu.hid (readVertices_any n ao ca es xo xc ls w he hl hx)
  have HBX := Nu.hid hbx
  unfold graphVal at HH
  clear he hx hg hr hbx
  go_enter Try.func31, Try.ntmps31
  go_wp2_with (go_at_call 32; refine HH.out.mono ?_; refine Hid.out ?_)
  refine Nu.hid ?_
  rintro e w1 ⟨hb, hp⟩
  have hB1 := (hb.block _ (lt_of_block HBX.out)).trans HBX.out
  rcases hp with ⟨hc, r, rs, rfl, hrz⟩ | ⟨hc, rfl⟩
  · obtain ⟨ro, rc, rfl⟩ := row_shape hrz
    have k0 := cell_of_one hB1
    have f0 := free_of_one hB1
    have HB := Nu.hid hb
    have HC := Nu.hid hc
    have HRZ := Nu.hid hrz
    have HB1 := Nu.hid hB1
    have HLT := Nu.hid (lt_of_block HBX.out)
    generalize hq : (Ro.hls es 0 ls).length = ql at *
    clear hb hc hrz hB1
    go_wp2
    go_end0
    refine ⟨((Wrote.refl (fun k => k = b + 2) w).later HB.out).setCell (b := b + 2) rfl _, .inl ⟨HC.out, rfl, _, rs, one_setCell HB1.out, ?_⟩⟩
    refine HRZ.out.kept fun g hg hg2 => blk_same ?_ _
    have h1 := HLT.out
    rcases hg with hg | ⟨u, x, hx, hxb⟩
    · have := (World.ownsRow.lt HRZ.out.outer g hg).1
      omega
    · obtain ⟨k, hk⟩ := HRZ.out.at hx
      have := (World.ownsRow.lt (HRZ.out.row u x k hx hk) g hxb).1
      omega
  · exact ⟨rfl, (Wrote.refl _ _).later hb, .inr ⟨hc, rfl, hB1⟩⟩

theorem fr1_enters : ∀ (args : Array Value) (w : World), (callFunc 31 args).run Try.prog w = .ok (.enter 31 args) w := enters_of Try.func31 (by kernel_rfl) rfl

set_option maxRecDepth 100000 in
set_option maxHeartbeats 8000000 in
theorem from_any11 (n : Int) (ao : Option Addr) (ca : Nat) (es : List (Int × Int)) (xo : Option Addr) (xc : Nat) (ls : List (List Int)) (w : World) (he : EdgesAt w ao es) (hl : es.length ≤ 4611686018427387904) (hx : RwsAt w xo ls) :
    Calls Try.prog 11 #[graphVal n ao es.length ca, .slice xo ls.length xc] w (FromP n es ls w) := by
  have hmf : ∀ (fn : Fn) (first cap : Array Value) (w : World), (Instr.makeFunc fn first cap).run Try.prog w = .ok (.func fn first cap) w := fun _ _ _ _ => rfl
  obtain ⟨W0, hW0⟩ : ∃ W, W = ((w.alloc (.cells #[.int .i64 n, .slice ao es.length ca] 30)).alloc (.cells #[.slice xo ls.length xc] 23)).alloc (.cells #[.slice none 0 0] 24) := ⟨_, rfl⟩
  have hb0 : Below w.heap.size w W0 := by rw [hW0]; exact (((Below.refl _ _).alloc (Nat.le_refl _) _).alloc (by simp) _).alloc (by simp; omega) _
  have hs0 : W0.heap.size = w.heap.size + 3 := by rw [hW0]; simp
  have hg : W0.heap[w.heap.size]? = some (.cells #[.int .i64 n, .slice ao es.length ca] 30 (0, 0)) := by
    rw [hW0, Below.heap_alloc _ _ _ (by simp; omega), Below.heap_alloc _ _ _ (by simp)]
    exact heap_alloc_new w _
  have hr : W0.heap[w.heap.size + 1]? = some (.cells #[.slice xo ls.length xc] 23 (0, 0)) := by
    rw [hW0, Below.heap_alloc _ _ _ (by simp)]
    exact alloc_at (by simp)
  have hbx : W0.heap[w.heap.size + 2]? = some (.cells #[.slice none 0 0] 24 (0, 0)) := by
    rw [hW0]
    exact alloc_at (by simp)
  obtain ⟨Wc, hWc⟩ : ∃ Wc, Wc = W0.alloc (.cells #[.int .i64 0, .int .i64 0] 60) := ⟨_, rfl⟩
  have hb1 : Below W0.heap.size W0 Wc := by rw [hWc]; exact (Below.refl _ _).alloc (Nat.le_refl _) _
  have hsc : Wc.heap.size = w.heap.size + 4 := by rw [hWc]; simp [hs0]
  have hflt : FltAt Wc W0.heap.size 0 0 := by rw [hWc]; exact heap_alloc_new W0 _
  have hc1 := from1_any n ao ca es xo xc ls w.heap.size Wc ((he.later hb0).later hb1) hl ((hx.later hb0).later hb1) ((hb1.block _ (by omega)).trans hg) ((hb1.block _ (by omega)).trans hr) ((hb1.block _ (by omega)).trans hbx)
  have hca := caught_any 31 #[.pointer (some ⟨w.heap.size, 0, none⟩), .pointer (some ⟨w.heap.size + 1, 0, none⟩), .pointer (some ⟨w.heap.size + 2, 0, none⟩)]
    (fun W => (Ro.check n es (Ro.hls es 0 ls)).2 = 0 ∧ Below w.heap.size w W ∧ w.heap.size + 3 < W.heap.size ∧ ∃ r rs, W.heap[w.heap.size + 2]? = some (.cells #[r] 24 (0, 0)) ∧ RowsZ W (w.heap.size + 4) r rs (Ro.hls es 0 ls))
    (fun v c W => v = (Ro.check n es (Ro.hls es 0 ls)).1 ∧ c = (Ro.check n es (Ro.hls es 0 ls)).2 ∧ c ≠ 0 ∧ Below w.heap.size w W ∧ w.heap.size + 3 < W.heap.size ∧ W.heap[w.heap.size + 2]? = some (.cells #[.slice none 0 0] 24 (0, 0))) W0 fr1_enters
    (by
      rw [← hWc]
      refine hc1.mono ?_
      rintro e w2 ⟨hw2, hp⟩
      have hbw : Below w.heap.size w w2 := by
        have h1 := hb0.trans (hb1.mono hb0.size)
        exact h1.trans (hw2.below h1.size fun k hk => by rw [hk]; omega)
      have hsz : w.heap.size + 3 < w2.heap.size := by have := hw2.size; omega
      refine ⟨(hw2.block W0.heap.size (by omega) (by show ¬ W0.heap.size = w.heap.size + 2; omega)).trans hflt, ?_⟩
      rcases hp with ⟨h0, rfl, r, rs, h1, h2⟩ | ⟨h0, rfl, h1⟩
      · rw [hsc] at h2
        exact .inl ⟨rfl, h0, hbw, hsz, r, rs, h1, h2⟩
      · exact .inr ⟨_, _, rfl, rfl, rfl, h0, hbw, hsz, h1⟩)
  have HCA := Nu.hid hca
  have HS0 := Nu.hid hs0
  unfold graphVal
  clear he hx hg hr hbx hb1 hc1 hca hb0 hs0 hWc hsc hflt
  rw [hW0] at HCA
  have HW := Nu.hid hW0
  clear hW0
  go_enter Try.func11, Try.ntmps11
  go_wp2_with (go_at_call 30; refine HCA.out.mono ?_; refine Hid.out ?_)
  refine Nu.hid ?_
  rintro e w1 ⟨W1, hp, hw⟩
  have hWe := HW.out
  rw [← hWe] at hw
  rw [HS0.out] at hw
  rcases hp with ⟨⟨h0, hb, hsz, r, rs, h1, h2⟩, rfl⟩ | ⟨v, c, ⟨hv, hc, h0, hb, hsz, h1⟩, rfl⟩
  · have hb2 : Below w.heap.size w w1 := hb.trans (hw.below hb.size fun k hk => by rw [hk]; omega)
    have hbx1 := (hw.block (w.heap.size + 2) (by omega) (by show ¬ w.heap.size + 2 = w.heap.size + 3; omega)).trans h1
    have hrz1 : RowsZ w1 (w.heap.size + 4) r rs (Ro.hls es 0 ls) := h2.kept fun g hg hg2 => hw.block g hg2 (by
      show ¬ g = w.heap.size + 3
      rcases hg with hg | ⟨u, x, hx, hxb⟩
      · have := (World.ownsRow.lt h2.outer g hg).1
        omega
      · obtain ⟨k, hk⟩ := h2.at hx
        have := (World.ownsRow.lt (h2.row u x k hx hk) g hxb).1
        omega)
    obtain ⟨ro, rc, rfl⟩ := row_shape hrz1
    have k0 := cell_of_one hbx1
    have HRZ := Nu.hid hrz1
    have HB2 := Nu.hid hb2
    have H0 := Nu.hid h0
    generalize hq : (Ro.hls es 0 ls).length = ql at *
    have hlt1 := lt_of_block hbx1
    clear hw hb hsz h1 h2 h0 hb2 hbx1 hrz1 hWe hq
    go_wp2
    go_region
    go_wp2
    go_ret3
    refine ⟨(HB2.out.alloc HB2.out.size _).drew, .inr ⟨H0.out, _, rs, rfl, ?_⟩⟩
    exact ((HRZ.out.later ((Below.refl _ _).alloc (Nat.le_refl _) _)).later (Below.refl _ _).drew).lower (by omega)
  · have hb2 : Below w.heap.size w w1 := hb.trans (hw.below hb.size fun k hk => by rw [hk]; omega)
    have hbx1 := (hw.block (w.heap.size + 2) (by omega) (by show ¬ w.heap.size + 2 = w.heap.size + 3; omega)).trans h1
    have k0 := cell_of_one hbx1
    have HB2 := Nu.hid hb2
    have H0 := Nu.hid h0
    have HV := Nu.hid hv
    have HC := Nu.hid hc
    have hlt1 := lt_of_block hbx1
    clear hw hb hsz h1 h0 hb2 hbx1 hWe hv hc
    go_wp2
    go_region
    go_wp2
    go_ret3
    have hv := HV.out
    have hc := HC.out
    subst hv
    refine ⟨(HB2.out.alloc HB2.out.size _).drew, .inl ⟨by rw [← hc]; exact H0.out, ?_⟩⟩
    rw [← hc]
    rfl

end Go.Proofs.Ytloabkgojopeaaa
