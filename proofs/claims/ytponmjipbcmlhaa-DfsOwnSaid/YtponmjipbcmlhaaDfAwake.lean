/-
  That the fixed fact of layer 7's statements is true; the statements' own walk.
-/
import Derived.Test.YtponmjipbcmlhaaDfBack
import Derived.Test.YtponmjipbcmlhaaDfSame
import Derived.Test.YtponmjipbcmlhaaCsRef
namespace Go.Proofs.Ytponmjipbcmlhaa
open Go.RowKit Go.Sort

namespace Df

/-- The walk, reckoned. -/
def runF (es : List (Int × Int)) : Nat → St → List Nat → Option St
  | 0, _, _ => none
  | _ + 1, s, [] => some s
  | f + 1, s, h :: L =>
    if s.dir (h / 2) ≠ -1 then runF es f s L
    else if s.height (Cs.to es h) ≠ -1 then runF es f (s.mark h) L
    else (runF es f (s.go es h) (Cs.out es (Cs.to es h) (2 * es.length))).bind fun s1 => runF es f s1 L

theorem runF_R {es : List (Int × Int)} : ∀ (f : Nat) {s s' : St} {L : List Nat}, runF es f s L = some s' → ∃ k, R es k s L s' := by
  intro f
  induction f with
  | zero => intro s s' L h; simp [runF] at h
  | succ f ih =>
    intro s s' L h
    cases L with
    | nil =>
      simp [runF] at h
      subst h
      exact ⟨0, .nil _⟩
    | cons x L =>
      unfold runF at h
      split at h
      · rename_i hw
        obtain ⟨k, hk⟩ := ih h
        exact ⟨_, .old hw hk⟩
      · rename_i hw
        have hw' : s.dir (x / 2) = -1 := by simpa using hw
        split at h
        · rename_i hv
          obtain ⟨k, hk⟩ := ih h
          exact ⟨_, .back hw' hv hk⟩
        · rename_i hv
          have hv' : s.height (Cs.to es x) = -1 := by simpa using hv
          obtain ⟨s1, h1, h2⟩ := Option.bind_eq_some_iff.1 h
          obtain ⟨j, hj⟩ := ih h1
          obtain ⟨k, hk⟩ := ih h2
          exact ⟨_, .tree hw' hv' hj hk⟩

def wakeEs : List (Int × Int) := [(0, 1), (0, 2), (1, 2), (1, 3)]
def wakeSt : St := ⟨[-1, 0, 4, 6, -1], [0, 1, 2, 2, 0], [0, 1, 2, 3, 4], [0, 3, 4, 6]⟩
def wakeMid : St := ⟨[-1, 0, 4, 6, -1], [0, 1, 2, 2, -1], [0, 1, 2, 3], [0, 3, 4, 6]⟩

theorem wake_val : Si.Val (5 : Nat) wakeEs := by
  refine ⟨by decide, by decide, by decide, fun j p hj => ?_, fun j p q hp hq => ?_⟩
  · match j, hj with
    | 0, hj => cases hj; unfold Si.ok; decide
    | 1, hj => cases hj; unfold Si.ok; decide
    | 2, hj => cases hj; unfold Si.ok; decide
    | 3, hj => cases hj; unfold Si.ok; decide
  · match j, hp, hq with
    | 0, hp, hq => cases hp; cases hq; unfold Si.lt; decide
    | 1, hp, hq => cases hp; cases hq; unfold Si.lt; decide
    | 2, hp, hq => cases hp; cases hq; unfold Si.lt; decide

theorem wake_walk : Wk 5 wakeEs 5 wakeSt := by
  obtain ⟨k1, h1⟩ := runF_R (es := wakeEs) 20 (s := (St.start 5 wakeEs.length).reach 0 (-1) 0) (L := Cs.out wakeEs 0 (2 * wakeEs.length)) (s' := wakeMid) (by decide)
  obtain ⟨k2, h2⟩ := runF_R (es := wakeEs) 20 (s := wakeMid.reach 4 (-1) 0) (L := Cs.out wakeEs 4 (2 * wakeEs.length)) (s' := wakeSt) (by decide)
  exact .walk (.pass (.pass (.pass (.walk .zero (by decide) h1) (by decide)) (by decide)) (by decide)) (by decide) h2

end Df

/-- How long the lists of a walk are. -/
theorem walk_len {n : Nat} {es : List (Int × Int)} {s : Df.St} (hv : Si.Val n es) (h : Df.Wk n es n s) : s.par.length ≤ 17592186043904 ∧ s.hei.length ≤ 17592186043904 ∧ s.ord.length ≤ 17592186043904 ∧ s.ori.length ≤ 17592186043904 := by
  have b := h.bd hv (Nat.le_refl _)
  have h1 := b.lp
  have h2 := b.lh
  have h3 := b.lo
  have h4 := b.hr
  have h5 := hv.hi
  have h6 := hv.few
  omega

set_option maxRecDepth 100000 in
set_option maxHeartbeats 8000000 in
theorem awake_any (w : World) : Calls Try.prog 9 #[] w fun e w' => e = .returned (.bool true) ∧ Below w.heap.size w w' := by
  have hE : EdgesAt (w.alloc (.cells #[.int .i64 0, .int .i64 1, .int .i64 0, .int .i64 2, .int .i64 1, .int .i64 2, .int .i64 1, .int .i64 3] 39)) (some ⟨w.heap.size, 0, none⟩) Df.wakeEs := fun j p hj => by
    refine ⟨w.heap.size, 0, rfl, ?_⟩
    match j, hj with
    | 0, hj => cases hj; simp
    | 1, hj => cases hj; simp
    | 2, hj => cases hj; simp
    | 3, hj => cases hj; simp
  have hb0 : Below w.heap.size w (w.alloc (.cells #[.int .i64 0, .int .i64 1, .int .i64 0, .int .i64 2, .int .i64 1, .int .i64 2, .int .i64 1, .int .i64 3] 39)) := (Below.refl _ _).alloc (Nat.le_refl _) _
  have hn : ∀ V, V = w.alloc (.cells #[.int .i64 0, .int .i64 1, .int .i64 0, .int .i64 2, .int .i64 1, .int .i64 2, .int .i64 1, .int .i64 3] 39) → Calls Try.prog 22 #[.agg #[.int .i64 5, .slice (some ⟨w.heap.size, 0, none⟩) 4 4]] V fun e w' => ∃ a1 a2 a3 a4 c1 c2 c3 c4, e = .returned (.tuple #[.agg #[.slice a1 5 c1, .slice a2 5 c2, .slice a3 5 c3, .slice a4 4 c4], .int .i64 0]) ∧ LstF w' ⟨a1, a2, a3, a4, c1, c2, c3, c4⟩ Df.wakeSt ∧ Below w.heap.size w w' := fun V hV => by
    subst hV
    refine (dwalk_any 5 (some ⟨w.heap.size, 0, none⟩) 4 Df.wakeEs _ hE (by decide)).mono ?_
    rintro e w' ⟨v1, v2, v3, v4, s, z, rfl, hown, ⟨m, hm, _, hwk, rfl⟩ | ⟨hv, _⟩, hb⟩
    · obtain rfl : m = 5 := by omega
      obtain rfl := hwk.unique Df.wake_walk
      obtain ⟨f, rfl, rfl, rfl, rfl, hl⟩ := hown.lst (walk_len Df.wake_val Df.wake_walk)
      exact ⟨f.a1, f.a2, f.a3, f.a4, f.c1, f.c2, f.c3, f.c4, rfl, hl, hb0.trans (hb.mono hb0.size)⟩
    · have h2 := Si.valid_iff.2 Df.wake_val
      rw [show ((5 : Nat) : Int) = 5 from rfl] at h2
      rw [h2] at hv
      cases hv
  have HN := Nu.hid (hn _ rfl)
  clear hE hn hb0
  go_enter Try.func9, Try.ntmps9
  go_wp2_with (go_at_call 22; refine HN.out.mono ?_; rintro e w1 ⟨a1, a2, a3, a4, c1, c2, c3, c4, rfl, hl, hb1⟩; refine Hid.out ?_)
  refine Nu.hid ?_
  have HL := Nu.hid hl
  have HB1 := Nu.hid hb1
  clear hl hb1 HN
  obtain ⟨A, hA⟩ : ∃ A, A = w1.alloc (.cells #[.slice a1 5 c1, .slice a2 5 c2, .slice a3 5 c3, .slice a4 4 c4] 28) := ⟨_, rfl⟩
  have hsA : A.heap.size = w1.heap.size + 1 := by rw [hA]; simp
  have hbA : Below w1.heap.size w1 A := by rw [hA]; exact (Below.refl _ _).alloc (Nat.le_refl _) _
  have gA : A.heap[w1.heap.size]? = some (.cells #[.slice a1 5 c1, .slice a2 5 c2, .slice a3 5 c3, .slice a4 4 c4] 28 (0, 0)) := by rw [hA]; exact heap_alloc_new w1 _
  have HLA := Nu.hid (HL.out.later hbA)
  have HC : Hid (∀ V, Below A.heap.size A V → V.cell? ⟨w1.heap.size, 0, none⟩ = some (.slice a1 5 c1) ∧ V.cell? ⟨w1.heap.size, 1, none⟩ = some (.slice a2 5 c2) ∧ V.cell? ⟨w1.heap.size, 2, none⟩ = some (.slice a3 5 c3) ∧ V.cell? ⟨w1.heap.size, 3, none⟩ = some (.slice a4 4 c4)) := fun V hV => by
    have k1 := (hV.block w1.heap.size (by omega)).trans gA
    obtain ⟨x0, x1, x2, x3, -⟩ := four_cells k1
    exact ⟨x0, x1, x2, x3⟩
  have hbA5 : Below A.heap.size A (A.alloc (.cells #[.int .i64 (-1), .int .i64 0, .int .i64 4, .int .i64 6, .int .i64 (-1)] 3)) := (Below.refl _ _).alloc (Nat.le_refl _) _
  have hi5 : IntsBlk (A.alloc (.cells #[.int .i64 (-1), .int .i64 0, .int .i64 4, .int .i64 6, .int .i64 (-1)] 3)) A.heap.size [-1, 0, 4, 6, -1] := heap_alloc_new A _
  have hcall1 := same_true (HLA.out.l1.later hbA5) (hi5.lst (n := 5) (ca := 5) rfl) (by decide)
  rw [hsA] at hcall1
  have HCALL1 := Nu.hid hcall1
  have HA := Nu.hid hA
  have HBA := Nu.hid (HB1.out.trans (hbA.mono HB1.out.size))
  have HBA5 := Nu.hid hbA5
  clear hA hbA gA hbA5 hi5 hcall1 HB1 HL
  go_wp2_with (go_at_call 25; rw [← HA.out]; refine HCALL1.out.mono ?_; rintro e w2 ⟨rfl, hb2⟩; refine Hid.out ?_)
  refine Nu.hid ?_
  have hb2' := HBA5.out.trans (hb2.mono HBA5.out.size)
  obtain ⟨x0, x1, x2, x3⟩ := HC.out w2 hb2'
  have hs2 := hb2'.size
  have hb4 : Below w2.heap.size w2 (w2.alloc (.cells #[.int .i64 0, .int .i64 3, .int .i64 4, .int .i64 6] 3)) := (Below.refl _ _).alloc (Nat.le_refl _) _
  have hi4 : IntsBlk (w2.alloc (.cells #[.int .i64 0, .int .i64 3, .int .i64 4, .int .i64 6] 3)) w2.heap.size [0, 3, 4, 6] := heap_alloc_new w2 _
  have hb24 := hb2'.trans (hb4.mono hb2'.size)
  have HCALL2 := Nu.hid (same_true (HLA.out.l4.later hb24) (hi4.lst (n := 4) (ca := 4) rfl) (by decide))
  have HB24 := Nu.hid hb24
  clear hb2 hb2' hb4 hi4 hb24
  go_wp2_with (go_at_call 25; refine HCALL2.out.mono ?_; rintro e w3 ⟨rfl, hb3⟩; refine Hid.out ?_)
  refine Nu.hid ?_
  have hb3' := HB24.out.trans (hb3.mono HB24.out.size)
  obtain ⟨x0, x1, x2, x3⟩ := HC.out w3 hb3'
  have hk1 := back_any ⟨a1, a2, a3, a4, c1, c2, c3, c4⟩ Df.wakeSt 1 w3 (HLA.out.later hb3')
  have hk1v : Df.back Df.wakeSt 1 = true := by decide
  rw [hk1v] at hk1
  have HK1 : Hid (Calls Try.prog 17 #[.agg #[.slice a1 5 c1, .slice a2 5 c2, .slice a3 5 c3, .slice a4 4 c4], .int .i64 1] w3 fun e w' => e = .returned (.bool true) ∧ Below w3.heap.size w3 w') := hk1
  have HB3 := Nu.hid hb3'
  have hs3 := hb3'.size
  clear hb3 hb3' hk1 hk1v HCALL1 HCALL2 HB24
  go_wp2_with (go_at_call 17; refine HK1.out.mono ?_; rintro e w4 ⟨rfl, hb4⟩; refine Hid.out ?_)
  refine Nu.hid ?_
  have hb4' := HB3.out.trans (hb4.mono HB3.out.size)
  obtain ⟨x0, x1, x2, x3⟩ := HC.out w4 hb4'
  have hk2 := back_any ⟨a1, a2, a3, a4, c1, c2, c3, c4⟩ Df.wakeSt 2 w4 (HLA.out.later hb4')
  have hk2v : Df.back Df.wakeSt 2 = false := by decide
  rw [hk2v] at hk2
  have HK2 : Hid (Calls Try.prog 17 #[.agg #[.slice a1 5 c1, .slice a2 5 c2, .slice a3 5 c3, .slice a4 4 c4], .int .i64 2] w4 fun e w' => e = .returned (.bool false) ∧ Below w4.heap.size w4 w') := hk2
  have HB4 := Nu.hid hb4'
  clear hb4 hb4' hk2 hk2v HK1
  go_wp2_with (go_at_call 17; refine HK2.out.mono ?_; rintro e w5 ⟨rfl, hb5⟩)
  go_ret
  exact ⟨rfl, HBA.out.trans ((HB4.out.trans (hb5.mono HB4.out.size)).mono HBA.out.size)⟩

end Go.Proofs.Ytponmjipbcmlhaa
