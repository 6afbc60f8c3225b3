import Derived.Test.YtalfpbalekbinaaMg33
import Derived.Laws.EntriesVeiled
/-
  isCut: is an edge of v in another block than its first one?
-/
namespace Go.Proofs.Ytalfpbalekbinaa
open Go.RowKit Go.Shelf

attribute [local go_sem] Oper.semAt_some

namespace Bl
/-- By a half-edge, the number of its edge's block. -/
def nh (f : Nat → Nat) (h : Int) : Nat := f (h.toNat / 2)
end Bl

section
variable {w : World} {p : Nat} {av : Value} {mb : Nat} {lo : Option Addr} {lc : Nat} {go : Nat} {n : Nat} {es : List (Int × Int)} {s : Df.St} {F : List (List Nat)} {D : DataW Value} {K : List Nat}

theorem nat_half {i jh : Nat} (h : i / 2 = jh) : (i : Int).tdiv 2 = (jh : Int) ∧ (i : Int) / 2 = (jh : Int) := by
  refine ⟨?_, by omega⟩
  rw [Int.tdiv_eq_ediv_of_nonneg (by omega)]
  omega

set_option maxRecDepth 100000 in
set_option maxHeartbeats 16000000 in
theorem isCut_any9 (f : Nat → Nat) (v : Nat) (hv : v < n) (h : PtIn w p av mb lo lc (.slice (some ⟨go, 0, none⟩) es.length es.length) n es s F D K) (hio : IntsBlk w go (Bl.nums es.length f)) (b : Bool) (hb : b = true ↔ ∃ z ∈ Cs.outZ n es v, Bl.nh f z ≠ Bl.nh f (Cs.firstI n es v)) :
    Calls Try.prog 53 #[.pointer (some ⟨p, 0, none⟩), .int .i64 (v : Int)] w fun e w' => e = .returned (.bool b) ∧ Below w.heap.size w w' := by
  have hfew := h.val.few
  have hpl := h.lt
  obtain ⟨c0, -, -, c3, -⟩ := h.cells
  have hgl := hio.lt
  obtain ⟨W1, hW1⟩ : ∃ W1, W1 = (w.alloc (.cells #[.pointer (some ⟨p, 0, none⟩)] 52)).alloc (.cells #[.bool false] 4) := ⟨_, rfl⟩
  have hbW : Below w.heap.size w W1 := by rw [hW1]; exact ((Below.refl _ _).alloc (Nat.le_refl _) _).alloc (by simp) _
  have hsW : W1.heap.size = w.heap.size + 1 + 1 := by rw [hW1]; simp
  have bp1 : Boxed W1 w.heap.size 52 (.pointer (some ⟨p, 0, none⟩)) := by rw [hW1]; exact (Boxed.new w _ _).alloc _
  have br1 : Boxed W1 (w.heap.size + 1) 4 (.bool false) := by
    have := Boxed.new (w.alloc (.cells #[.pointer (some ⟨p, 0, none⟩)] 52)) 4 (.bool false)
    rw [World.size_alloc] at this
    rw [hW1]
    exact this
  obtain ⟨z0, hz0⟩ : ∃ z0, Cs.firstI n es v = z0 := ⟨_, rfl⟩
  rw [hz0] at hb
  have HFI : Hid (Calls Try.prog 74 #[av, .int .i64 (v : Int)] W1 fun e w' => e = .returned (.int .i64 z0) ∧ Below W1.heap.size W1 w') := by
    have := first_any av n es (v : Int) W1 (h.adj.later hbW)
    rw [hz0] at this
    refine this.mono ?_
    rintro e w' ⟨h1, k, rfl⟩
    exact ⟨h1, below_drewN (Below.refl _ _) k⟩
  have HOUT : Hid (∀ X, Below w.heap.size w X → Calls Try.prog 75 #[av, .int .i64 (v : Int)] X (ItPost8 n es (v : Int) w X)) := fun X hX => citer8_any av n es (v : Int) w X h.adj hX
  have hzl : (Cs.outZ n es v).length ≤ 8388608 := by
    rw [Cs.outZ_len]
    have := Cs.outI_len_le (n := n) (es := es) (v := (v : Int))
    omega
  have HZL := Nu.hid hzl
  have H := Nu.hid h
  have HIO := Nu.hid hio
  have HBI := Nu.hid hb
  have HZ0 := Nu.hid hz0
  have HW1 := Nu.hid hW1
  have HBW := Nu.hid hbW
  have HSW := Nu.hid hsW
  clear h hio hb hz0 hzl hW1 hbW hsW
  refine (callsIn_wide (n := 9)).1 ?_
  refine callsIn_of_wp_marks Try.func53 rfl trivial ?_ rfl
  simp only [Try.ntmps53, List.size_toArray, List.length_cons, List.length_nil, Nat.reduceAdd, Nat.reduceSub, Array.replicate_succ, Array.replicate_zero, List.push_toArray, List.append_toArray, List.nil_append, List.cons_append]
  refine wpIn_wide.2 ?_
  go_wp2_with (first | (go_at_call 74; rw [← HW1.out]; refine HFI.out.mono ?_; rintro e w1 ⟨rfl, hb2⟩; refine Hid.out ?_))
  refine Nu.hid ?_
  have bp2 : Boxed w1 w.heap.size 52 (.pointer (some ⟨p, 0, none⟩)) := (hb2.block _ bp1.lt).trans bp1
  have br2 : Boxed w1 (w.heap.size + 1) 4 (.bool false) := (hb2.block _ br1.lt).trans br1
  have hB2 : Below w.heap.size w w1 := HBW.out.trans (hb2.mono HBW.out.size)
  obtain ⟨c0', -, -, -, -⟩ := (H.out.later hB2).cells
  have cbp := Boxed.cell bp2
  have HB2 := Nu.hid hB2
  clear hb2 c0 c3 bp1 br1 HFI hB2
  obtain ⟨w2, hw2⟩ : ∃ w2, w2 = w1.alloc (.cells #[.int .i64 z0] 3) := ⟨_, rfl⟩
  have hb3 : Below w1.heap.size w1 w2 := by rw [hw2]; exact (Below.refl _ _).alloc (Nat.le_refl _) _
  have bf2 : Boxed w2 w1.heap.size 3 (.int .i64 z0) := by rw [hw2]; exact Boxed.new w1 _ _
  have HW2 := Nu.hid hw2
  have hB3 : Below w.heap.size w w2 := HB2.out.trans (hb3.mono HB2.out.size)
  have bp3 : Boxed w2 w.heap.size 52 (.pointer (some ⟨p, 0, none⟩)) := (hb3.block _ bp2.lt).trans bp2
  have br3 : Boxed w2 (w.heap.size + 1) 4 (.bool false) := (hb3.block _ br2.lt).trans br2
  have hrl := br2.lt
  have hpl1 : p < w1.heap.size := by have := HB2.out.size; omega
  have HOUT2 := Nu.hid (HOUT.out w2 hB3)
  have hbpl := bp2.lt
  clear hw2 hb3 HOUT
  go_wp2_with (go_at_call 75; rw [← HW2.out]; refine HOUT2.out.mono ?_; rintro e w6 ⟨Bs, ao, cap, rfl, hBse, hbox, hints, hb6⟩; have HBS : Hid (Bs = w2.heap.size) := hBse; clear hBse)
  refine (wpIn_wide (n := 9)).1 ?_
  have hB6 : Below w.heap.size w w6 := hB3.trans (hb6.mono hB3.size)
  have hund : IntsUnder w.heap.size w6 ao (Cs.outZ n es v) := hints.under hB6
  have bp6 : Boxed w6 w.heap.size 52 (.pointer (some ⟨p, 0, none⟩)) := (hb6.block _ bp3.lt).trans bp3
  have br6 : Boxed w6 (w.heap.size + 1) 4 (.bool false) := (hb6.block _ br3.lt).trans br3
  have bf6 : Boxed w6 w1.heap.size 3 (.int .i64 z0) := (hb6.block _ bf2.lt).trans bf2
  refine it_out (n := 9) (gf := 98) (lb := #[.pointer (some ⟨Bs, 0, none⟩)]) (by rfl) (enters_of Try.func98 (by kernel_rfl) rfl)
    (out_it Bs w.heap.size cap (fun _ => False) ao (Cs.outZ n es v) HZL.out w6 hB6.size (fun h => h) hbox hund) hB6.size (fun _ => rfl)
    (fun pre W => (∀ z ∈ pre, Bl.nh f z = Bl.nh f z0) ∧ Kep w.heap.size (fun _ => False) w6 W) (fun c _ W => c = .ret ∧ ((∃ z ∈ Cs.outZ n es v, Bl.nh f z ≠ Bl.nh f z0) ∧ Boxed W (w.heap.size + 1) 4 (.bool true)) ∧ Kep w.heap.size (fun b => b = w.heap.size + 1) w6 W)
    (OwnFrom.and (fun _ _ _ _ hs _ _ => hs) (Kep.own hB6.size hB6.size)) (fun c => OwnFrom.and (fun _ _ _ _ hs _ _ => hs) (OwnFrom.and (OwnFrom.and (fun _ _ _ _ hs _ _ => hs) (Own.from (boxed_own _ _ _) _)) (Kep.own hB6.size hB6.size))) ⟨fun z hz => (by cases hz), Kep.refl _ _ _⟩
    (fun k a' _ => a' = { tmps := #[.pointer (some ⟨p, 0, none⟩), .int .i64 (v : Int), .pointer (some ⟨w.heap.size, 0, none⟩), undef, .pointer (some ⟨w.heap.size + 1, 0, none⟩), .pointer (some ⟨w1.heap.size, 0, none⟩), .int .i64 k, .pointer (some ⟨p, 0, none⟩), .pointer (some ⟨p, 0, none⟩), .pointer (some ⟨p, 0, none⟩), av, .int .i64 (v : Int), .int .i64 z0, .pointer (some ⟨p, 0, none⟩), .pointer (some ⟨p, 0, none⟩), .pointer (some ⟨p, 0, none⟩), av, .int .i64 (v : Int), .func (.func 98) #[] #[.pointer (some ⟨Bs, 0, none⟩)], .int .i64 k, undef, undef, undef, undef, undef, undef, undef, undef, undef, undef, undef, undef, undef, undef, undef, undef, undef], defers := [] })
    (fun k a' => ownFrom_pure _ _) ?assign ?body ?done ?stop
  case assign =>
    intro l2 pre k W K _ hi hK
    gi_wp2
    exact hK _ _ (KeepsFrom.refl _ _) (Kep.refl _ _ _) hi rfl
  case body =>
    rintro l2 pre k a' A ⟨hl2', -⟩ _ hpx ⟨hpre, hkA⟩ rfl
    have hkm : k ∈ Cs.outZ n es v := hpx.subset (List.mem_append_right pre (List.mem_singleton.2 rfl))
    obtain ⟨i, rfl, hi, hfr⟩ := (mem_outZ hv).1 hkm
    -- the first one is there
    have hz0m : z0 ∈ Cs.outZ n es v := by
      rw [← HZ0.out]
      unfold Cs.firstI
      cases hq : Cs.outZ n es v with
      | nil => rw [hq] at hkm; cases hkm
      | cons y l => simp
    obtain ⟨i0, rfl, hi0, -⟩ := (mem_outZ hv).1 hz0m
    have hA : Below w.heap.size w A := hB6.trans hkA.1
    obtain ⟨jh, hjh⟩ : ∃ jh, i / 2 = jh := ⟨_, rfl⟩
    obtain ⟨j0, hj0⟩ : ∃ j0, i0 / 2 = j0 := ⟨_, rfl⟩
    obtain ⟨td1, td2⟩ := nat_half hjh
    obtain ⟨td3, td4⟩ := nat_half hj0
    have q0 : (0 : Int) ≤ (jh : Int) := by omega
    have q1 : (jh : Int) < (es.length : Int) := by omega
    have q2 : (0 : Int) ≤ (j0 : Int) := by omega
    have q3 : (j0 : Int) < (es.length : Int) := by omega
    have wr1 : IntKind.i64.wrap (jh : Int) = (jh : Int) := wrap_few9 jh (by omega)
    have wr2 : IntKind.i64.wrap (j0 : Int) = (j0 : Int) := wrap_few9 j0 (by omega)
    have bpA := hkA.boxed bp6 (fun h => h)
    have bfA := hkA.boxed bf6 (fun h => h)
    have brA := hkA.boxed br6 (fun h => h)
    have cb1 : ∀ E : LW A, E.val.cell? ⟨w.heap.size, 0, none⟩ = some (.pointer (some ⟨p, 0, none⟩)) := fun E => Boxed.cell ((E.h.block _ bpA.lt).trans bpA)
    have cf1 : ∀ E : LW A, E.val.cell? ⟨w1.heap.size, 0, none⟩ = some (.int .i64 (i0 : Int)) := fun E => Boxed.cell ((E.h.block _ bfA.lt).trans bfA)
    have c31 : ∀ E : LW A, E.val.cell? ⟨p, 3, none⟩ = some (.slice (some ⟨go, 0, none⟩) es.length es.length) := fun E => ((H.out.later hA).later E.h).cells.2.2.2.1
    have d1 : ∀ E : LW A, E.val.cell? ⟨go, jh, none⟩ = some (.int .i64 (f jh : Int)) := fun E => ((HIO.out.later hA).later E.h).cell (Bl.nums_at (f := f) (by omega))
    have d2 : ∀ E : LW A, E.val.cell? ⟨go, j0, none⟩ = some (.int .i64 (f j0 : Int)) := fun E => ((HIO.out.later hA).later E.h).cell (Bl.nums_at (f := f) (by omega))
    have hne := LW.any A
    have hn1 : Bl.nh f (i : Int) = f jh := by unfold Bl.nh; rw [Int.toNat_natCast, hjh]
    have hn2 : Bl.nh f (i0 : Int) = f j0 := by unfold Bl.nh; rw [Int.toNat_natCast, hj0]
    have HKA := Nu.hid hkA
    have HPRE := Nu.hid hpre
    have HN1 := Nu.hid hn1
    have HN2 := Nu.hid hn2
    have HKM := Nu.hid hkm
    have HBR := Nu.hid brA
    have HHA := Nu.hid hA
    clear hkA hpre hn1 hn2 hkm brA bpA bfA hA hjh hj0
    by_cases hff : f jh = f j0
    · have eb : ((f jh : Int) != (f j0 : Int)) = false := by simp [hff]
      have HFF := Nu.hid hff
      clear hff
      gi_wp2
      refine wpIn_region_lw (by kernel_rfl) (by kernel_rfl) (by kernel_rfl) ?_
      repeat (go_big_quiet_step (fail))
      refine wpQuiet_nil ?_
      rintro _ ⟨E, rfl⟩
      have hE := E.h
      clear cb1 cf1 c31 d1 d2 hne
      gi_wp2
      refine ⟨kf_below hE, (Kep.refl _ _ _).grow hE HHA.out.size, fun z hz => ?_, HKA.out.grow hE HHA.out.size⟩
      rcases List.mem_append.1 hz with hz | hz
      · exact HPRE.out z hz
      · rw [List.mem_singleton.1 hz, HN1.out, HN2.out, HFF.out]
    · have eb : ((f jh : Int) != (f j0 : Int)) = true := by simp; omega
      have HFF := Nu.hid hff
      clear hff
      gi_wp2
      refine wpIn_region_lw (by kernel_rfl) (by kernel_rfl) (by kernel_rfl) ?_
      repeat (go_big_quiet_step (fail))
      refine wpQuiet_nil ?_
      rintro _ ⟨E, rfl⟩
      obtain ⟨A2, hA2e⟩ : ∃ A2, A2 = E.val := ⟨_, rfl⟩
      have hA2 : Below A.heap.size A A2 := by rw [hA2e]; exact E.h
      have brE : Boxed A2 (w.heap.size + 1) 4 (.bool false) := (hA2.block _ HBR.out.lt).trans HBR.out
      have cr := brE.cell
      have fr := brE.frozen
      rw [← hA2e]
      have HBE := Nu.hid brE
      have HEND : Hid (KeepsFrom w6.heap.size A (A2.setCell ⟨w.heap.size + 1, 0, none⟩ (.bool true)) ∧ ((∃ z ∈ Cs.outZ n es v, Bl.nh f z ≠ Bl.nh f (i0 : Int)) ∧ Boxed (A2.setCell ⟨w.heap.size + 1, 0, none⟩ (.bool true)) (w.heap.size + 1) 4 (.bool true)) ∧ Kep w.heap.size (fun b => b = w.heap.size + 1) w6 (A2.setCell ⟨w.heap.size + 1, 0, none⟩ (.bool true))) := by
        refine ⟨(kf_below hA2).trans (kf_wrote (S := fun k => k = w.heap.size + 1) ((Wrote.refl (fun k => k = w.heap.size + 1) A2).setCell (b := w.heap.size + 1) (i := 0) rfl (.bool true)) (fun k _ hk => .inl (by rw [hk]; exact br6.lt))), ⟨⟨(i : Int), HKM.out, by rw [HN1.out, HN2.out]; exact HFF.out⟩, HBE.out.set _⟩, ?_⟩
        have h1 : Kep w.heap.size (fun b => b = w.heap.size + 1) w6 A := ⟨HKA.out.1, fun b o hb ho _ => HKA.out.2 b o hb ho (fun h => h)⟩
        exact (h1.grow hA2 HHA.out.size).set (p := ⟨w.heap.size + 1, 0, none⟩) (by show _ ≤ _ + 1; omega) rfl _
      clear cb1 cf1 c31 d1 d2 hne hA2e hA2 brE
      gi_wp2
      exact ⟨HEND.out.1, rfl, HEND.out.2⟩
  case done =>
    rintro Dd W hD ⟨hall, hkW⟩ hK
    have brW := hkW.boxed br6 (fun h => h)
    have cr := brW.cell
    have fr := brW.frozen
    have hbf : b = false := by
      cases hq : b with
      | false => rfl
      | true =>
        obtain ⟨z, hz, hne⟩ := HBI.out.1 hq
        exact absurd (hall z hz) hne
    subst hbf
    have hrl6 := br6.lt
    have hDK := hK
    have HBW2 := Nu.hid brW
    have HKW := Nu.hid hkW
    have HK := Nu.hid hK
    clear hall hkW brW hK hDK
    go_wp2
    have hK2 : (W.setCell ⟨w.heap.size + 1, 0, none⟩ (.bool false)).heap[Dd]? = some (.deferred (some [])) := (heap_setCell_other W ⟨w.heap.size + 1, 0, none⟩ Dd _ (by simp; omega)).trans HK.out
    refine ⟨by simp, .inl ⟨_, _, rfl, run_takeDeferred hK2, ?_⟩⟩
    have hbx : Boxed (W.setCell ⟨w.heap.size + 1, 0, none⟩ (.bool false)) (w.heap.size + 1) 4 (.bool false) := HBW2.out.set _
    have hbelW : Below w.heap.size w (W.setCell ⟨w.heap.size + 1, 0, none⟩ (.bool false)) := (hB6.trans HKW.out.1).setCell (p := ⟨w.heap.size + 1, 0, none⟩) (by show _ ≤ _ + 1; omega) _
    refine ⟨_, results_cell1 rfl _ _ ⟨w.heap.size + 1, 0, none⟩ (.bool false) rfl ?_ (by kernel_rfl), rfl, ?_⟩
    · exact Boxed.cell (OwnFrom.putObj (β := Unit) (B := w6.heap.size) (I := fun _ X => Boxed X (w.heap.size + 1) 4 (.bool false)) (Own.from (boxed_own _ _ _) _) (s := ()) _ hbx hD hK2 rfl)
    · exact hbelW.trans (belowK_b (w := w) (Nat.le_refl _) _ Dd _ _ (by have := hB6.size; omega) hK2 rfl rfl)
  case stop =>
    rintro Dd c pre W hD _ ⟨rfl, ⟨hex, brW⟩, hkW⟩ hK
    have hbt : b = true := HBI.out.2 hex
    subst hbt
    have hbelW : Below w.heap.size w W := hB6.trans hkW.1
    gi_wp2
    refine ⟨by simp, .inl ⟨_, _, rfl, run_takeDeferred hK, ?_⟩⟩
    refine ⟨_, results_cell1 rfl _ _ ⟨w.heap.size + 1, 0, none⟩ (.bool true) rfl ?_ (by kernel_rfl), rfl, ?_⟩
    · exact Boxed.cell (OwnFrom.putObj (β := Unit) (B := w6.heap.size) (I := fun _ X => Boxed X (w.heap.size + 1) 4 (.bool true)) (Own.from (boxed_own _ _ _) _) (s := ()) _ brW hD hK rfl)
    · exact hbelW.trans (belowK_b (w := w) (Nat.le_refl _) _ Dd _ _ (by have := hB6.size; omega) hK rfl rfl)
end
end Go.Proofs.Ytalfpbalekbinaa

/-
  isIn: is an edge of v in block k?
-/
namespace Go.Proofs.Ytalfpbalekbinaa
open Go.RowKit Go.Shelf

attribute [local go_sem] Oper.semAt_some

section
variable {w : World} {p : Nat} {av : Value} {mb : Nat} {lo : Option Addr} {lc : Nat} {go : Nat} {n : Nat} {es : List (Int × Int)} {s : Df.St} {F : List (List Nat)} {D : DataW Value} {K : List Nat}

set_option maxRecDepth 100000 in
set_option maxHeartbeats 16000000 in
theorem isIn_any9 (f : Nat → Nat) (v : Nat) (kk : Int) (hv : v < n) (h : PtIn w p av mb lo lc (.slice (some ⟨go, 0, none⟩) es.length es.length) n es s F D K) (hio : IntsBlk w go (Bl.nums es.length f)) (b : Bool) (hb : b = true ↔ ∃ z ∈ Cs.outZ n es v, (Bl.nh f z : Int) = kk) :
    Calls Try.prog 54 #[.pointer (some ⟨p, 0, none⟩), .int .i64 (v : Int), .int .i64 kk] w fun e w' => e = .returned (.bool b) ∧ Below w.heap.size w w' := by
  have hfew := h.val.few
  have hpl := h.lt
  have hpl1 : p < w.heap.size + 1 := by omega
  have hpl2 : p < w.heap.size + 1 + 1 := by omega
  obtain ⟨c0, -, -, c3, -⟩ := h.cells
  have hgl := hio.lt
  obtain ⟨w2, hw2⟩ : ∃ w2, w2 = ((w.alloc (.cells #[.pointer (some ⟨p, 0, none⟩)] 52)).alloc (.cells #[.int .i64 kk] 3)).alloc (.cells #[.bool false] 4) := ⟨_, rfl⟩
  have hB3 : Below w.heap.size w w2 := by rw [hw2]; exact (((Below.refl _ _).alloc (Nat.le_refl _) _).alloc (by simp) _).alloc (by simp; omega) _
  have bp3 : Boxed w2 w.heap.size 52 (.pointer (some ⟨p, 0, none⟩)) := by rw [hw2]; exact ((Boxed.new w _ _).alloc _).alloc _
  have bf2 : Boxed w2 (w.heap.size + 1) 3 (.int .i64 kk) := by
    have := Boxed.new (w.alloc (.cells #[.pointer (some ⟨p, 0, none⟩)] 52)) 3 (.int .i64 kk)
    rw [World.size_alloc] at this
    rw [hw2]
    exact this.alloc _
  have br3 : Boxed w2 (w.heap.size + 1 + 1) 4 (.bool false) := by
    have := Boxed.new ((w.alloc (.cells #[.pointer (some ⟨p, 0, none⟩)] 52)).alloc (.cells #[.int .i64 kk] 3)) 4 (.bool false)
    rw [World.size_alloc, World.size_alloc] at this
    rw [hw2]
    exact this
  have HOUT2 : Hid (Calls Try.prog 75 #[av, .int .i64 (v : Int)] w2 (ItPost8 n es (v : Int) w w2)) := citer8_any av n es (v : Int) w w2 h.adj hB3
  have hzl : (Cs.outZ n es v).length ≤ 8388608 := by
    rw [Cs.outZ_len]
    have := Cs.outI_len_le (n := n) (es := es) (v := (v : Int))
    omega
  have HZL := Nu.hid hzl
  have H := Nu.hid h
  have HIO := Nu.hid hio
  have HBI := Nu.hid hb
  have HW2 := Nu.hid hw2
  clear h hio hb hzl hw2 c3
  refine (callsIn_wide (n := 9)).1 ?_
  refine callsIn_of_wp_marks Try.func54 rfl trivial ?_ rfl
  simp only [Try.ntmps54, List.size_toArray, List.length_cons, List.length_nil, Nat.reduceAdd, Nat.reduceSub, Array.replicate_succ, Array.replicate_zero, List.push_toArray, List.append_toArray, List.nil_append, List.cons_append]
  refine wpIn_wide.2 ?_
  go_wp2_with (go_at_call 75; rw [← HW2.out]; refine HOUT2.out.mono ?_; rintro e w6 ⟨Bs, ao, cap, rfl, hBse, hbox, hints, hb6⟩; have HBS : Hid (Bs = w2.heap.size) := hBse; clear hBse)
  refine (wpIn_wide (n := 9)).1 ?_
  have hB6 : Below w.heap.size w w6 := hB3.trans (hb6.mono hB3.size)
  have hund : IntsUnder w.heap.size w6 ao (Cs.outZ n es v) := hints.under hB6
  have bp6 : Boxed w6 w.heap.size 52 (.pointer (some ⟨p, 0, none⟩)) := (hb6.block _ bp3.lt).trans bp3
  have br6 : Boxed w6 (w.heap.size + 1 + 1) 4 (.bool false) := (hb6.block _ br3.lt).trans br3
  have bf6 : Boxed w6 (w.heap.size + 1) 3 (.int .i64 kk) := (hb6.block _ bf2.lt).trans bf2
  refine it_out (n := 9) (gf := 98) (lb := #[.pointer (some ⟨Bs, 0, none⟩)]) (by rfl) (enters_of Try.func98 (by kernel_rfl) rfl)
    (out_it Bs w.heap.size cap (fun _ => False) ao (Cs.outZ n es v) HZL.out w6 hB6.size (fun h => h) hbox hund) hB6.size (fun _ => rfl)
    (fun pre W => (∀ z ∈ pre, (Bl.nh f z : Int) ≠ kk) ∧ Kep w.heap.size (fun _ => False) w6 W) (fun c _ W => c = .ret ∧ ((∃ z ∈ Cs.outZ n es v, (Bl.nh f z : Int) = kk) ∧ Boxed W (w.heap.size + 1 + 1) 4 (.bool true)) ∧ Kep w.heap.size (fun b => b = w.heap.size + 1 + 1) w6 W)
    (OwnFrom.and (fun _ _ _ _ hs _ _ => hs) (Kep.own hB6.size hB6.size)) (fun c => OwnFrom.and (fun _ _ _ _ hs _ _ => hs) (OwnFrom.and (OwnFrom.and (fun _ _ _ _ hs _ _ => hs) (Own.from (boxed_own _ _ _) _)) (Kep.own hB6.size hB6.size))) ⟨fun z hz => (by cases hz), Kep.refl _ _ _⟩
    (fun k a' _ => a' = { tmps := #[.pointer (some ⟨p, 0, none⟩), .int .i64 (v : Int), .int .i64 kk, .pointer (some ⟨w.heap.size, 0, none⟩), undef, .pointer (some ⟨w.heap.size + 1, 0, none⟩), .pointer (some ⟨w.heap.size + 1 + 1, 0, none⟩), .int .i64 k, .pointer (some ⟨p, 0, none⟩), .pointer (some ⟨p, 0, none⟩), .pointer (some ⟨p, 0, none⟩), av, .int .i64 (v : Int), .func (.func 98) #[] #[.pointer (some ⟨Bs, 0, none⟩)], .int .i64 k, undef, undef, undef, undef, undef, undef, undef, undef, undef, undef], defers := [] })
    (fun k a' => ownFrom_pure _ _) ?assign ?body ?done ?stop
  case assign =>
    intro l2 pre k W K _ hi hK
    gi_wp2
    exact hK _ _ (KeepsFrom.refl _ _) (Kep.refl _ _ _) hi rfl
  case body =>
    rintro l2 pre k a' A ⟨hl2', -⟩ _ hpx ⟨hpre, hkA⟩ rfl
    have hkm : k ∈ Cs.outZ n es v := hpx.subset (List.mem_append_right pre (List.mem_singleton.2 rfl))
    obtain ⟨i, rfl, hi, hfr⟩ := (mem_outZ hv).1 hkm
    have hA : Below w.heap.size w A := hB6.trans hkA.1
    obtain ⟨jh, hjh⟩ : ∃ jh, i / 2 = jh := ⟨_, rfl⟩
    obtain ⟨td1, td2⟩ := nat_half hjh
    have q0 : (0 : Int) ≤ (jh : Int) := by omega
    have q1 : (jh : Int) < (es.length : Int) := by omega
    have wr1 : IntKind.i64.wrap (jh : Int) = (jh : Int) := wrap_few9 jh (by omega)
    have bpA := hkA.boxed bp6 (fun h => h)
    have bfA := hkA.boxed bf6 (fun h => h)
    have brA := hkA.boxed br6 (fun h => h)
    have cb1 : ∀ E : LW A, E.val.cell? ⟨w.heap.size, 0, none⟩ = some (.pointer (some ⟨p, 0, none⟩)) := fun E => Boxed.cell ((E.h.block _ bpA.lt).trans bpA)
    have cf1 : ∀ E : LW A, E.val.cell? ⟨w.heap.size + 1, 0, none⟩ = some (.int .i64 kk) := fun E => Boxed.cell ((E.h.block _ bfA.lt).trans bfA)
    have c31 : ∀ E : LW A, E.val.cell? ⟨p, 3, none⟩ = some (.slice (some ⟨go, 0, none⟩) es.length es.length) := fun E => ((H.out.later hA).later E.h).cells.2.2.2.1
    have d1 : ∀ E : LW A, E.val.cell? ⟨go, jh, none⟩ = some (.int .i64 (f jh : Int)) := fun E => ((HIO.out.later hA).later E.h).cell (Bl.nums_at (f := f) (by omega))
    have hne := LW.any A
    have hn1 : Bl.nh f (i : Int) = f jh := by unfold Bl.nh; rw [Int.toNat_natCast, hjh]
    have HKA := Nu.hid hkA
    have HPRE := Nu.hid hpre
    have HN1 := Nu.hid hn1
    have HKM := Nu.hid hkm
    have HBR := Nu.hid brA
    have HHA := Nu.hid hA
    clear hkA hpre hn1 hkm brA bpA bfA hA hjh
    by_cases hff : (f jh : Int) = kk
    · have eb : ((f jh : Int) == kk) = true := by simp [hff]
      have HFF := Nu.hid hff
      clear hff
      gi_wp2
      refine wpIn_region_lw (by kernel_rfl) (by kernel_rfl) (by kernel_rfl) ?_
      repeat (go_big_quiet_step (fail))
      refine wpQuiet_nil ?_
      rintro _ ⟨E, rfl⟩
      obtain ⟨A2, hA2e⟩ : ∃ A2, A2 = E.val := ⟨_, rfl⟩
      have hA2 : Below A.heap.size A A2 := by rw [hA2e]; exact E.h
      have brE : Boxed A2 (w.heap.size + 1 + 1) 4 (.bool false) := (hA2.block _ HBR.out.lt).trans HBR.out
      have cr := brE.cell
      have fr := brE.frozen
      rw [← hA2e]
      have HBE := Nu.hid brE
      have HEND : Hid (KeepsFrom w6.heap.size A (A2.setCell ⟨w.heap.size + 1 + 1, 0, none⟩ (.bool true)) ∧ ((∃ z ∈ Cs.outZ n es v, (Bl.nh f z : Int) = kk) ∧ Boxed (A2.setCell ⟨w.heap.size + 1 + 1, 0, none⟩ (.bool true)) (w.heap.size + 1 + 1) 4 (.bool true)) ∧ Kep w.heap.size (fun b => b = w.heap.size + 1 + 1) w6 (A2.setCell ⟨w.heap.size + 1 + 1, 0, none⟩ (.bool true))) := by
        refine ⟨(kf_below hA2).trans (kf_wrote (S := fun k => k = w.heap.size + 1 + 1) ((Wrote.refl (fun k => k = w.heap.size + 1 + 1) A2).setCell (b := w.heap.size + 1 + 1) (i := 0) rfl (.bool true)) (fun k _ hk => .inl (by rw [hk]; exact br6.lt))), ⟨⟨(i : Int), HKM.out, by rw [HN1.out]; exact HFF.out⟩, HBE.out.set _⟩, ?_⟩
        have h1 : Kep w.heap.size (fun b => b = w.heap.size + 1 + 1) w6 A := ⟨HKA.out.1, fun b o hb ho _ => HKA.out.2 b o hb ho (fun h => h)⟩
        exact (h1.grow hA2 HHA.out.size).set (p := ⟨w.heap.size + 1 + 1, 0, none⟩) (by show _ ≤ w.heap.size + 1 + 1; omega) rfl _
      clear cb1 cf1 c31 d1 hne hA2e hA2 brE
      gi_wp2
      exact ⟨HEND.out.1, rfl, HEND.out.2⟩
    · have eb : ((f jh : Int) == kk) = false := by simp [hff]
      have HFF := Nu.hid hff
      clear hff
      gi_wp2
      refine wpIn_region_lw (by kernel_rfl) (by kernel_rfl) (by kernel_rfl) ?_
      repeat (go_big_quiet_step (fail))
      refine wpQuiet_nil ?_
      rintro _ ⟨E, rfl⟩
      have hE := E.h
      clear cb1 cf1 c31 d1 hne
      gi_wp2
      refine ⟨kf_below hE, (Kep.refl _ _ _).grow hE HHA.out.size, fun z hz => ?_, HKA.out.grow hE HHA.out.size⟩
      rcases List.mem_append.1 hz with hz | hz
      · exact HPRE.out z hz
      · rw [List.mem_singleton.1 hz, HN1.out]
        exact HFF.out
  case done =>
    rintro Dd W hD ⟨hall, hkW⟩ hK
    have brW := hkW.boxed br6 (fun h => h)
    have cr := brW.cell
    have fr := brW.frozen
    have hbf : b = false := by
      cases hq : b with
      | false => rfl
      | true =>
        obtain ⟨z, hz, hne⟩ := HBI.out.1 hq
        exact absurd hne (hall z hz)
    subst hbf
    have hrl6 := br6.lt
    have HBW2 := Nu.hid brW
    have HKW := Nu.hid hkW
    have HK := Nu.hid hK
    clear hall hkW brW hK
    go_wp2
    have hK2 : (W.setCell ⟨w.heap.size + 1 + 1, 0, none⟩ (.bool false)).heap[Dd]? = some (.deferred (some [])) := (heap_setCell_other W ⟨w.heap.size + 1 + 1, 0, none⟩ Dd _ (by simp; omega)).trans HK.out
    refine ⟨by simp, .inl ⟨_, _, rfl, run_takeDeferred hK2, ?_⟩⟩
    have hbx : Boxed (W.setCell ⟨w.heap.size + 1 + 1, 0, none⟩ (.bool false)) (w.heap.size + 1 + 1) 4 (.bool false) := HBW2.out.set _
    have hbelW : Below w.heap.size w (W.setCell ⟨w.heap.size + 1 + 1, 0, none⟩ (.bool false)) := (hB6.trans HKW.out.1).setCell (p := ⟨w.heap.size + 1 + 1, 0, none⟩) (by show _ ≤ w.heap.size + 1 + 1; omega) _
    refine ⟨_, results_cell1 rfl _ _ ⟨w.heap.size + 1 + 1, 0, none⟩ (.bool false) rfl ?_ (by kernel_rfl), rfl, ?_⟩
    · exact Boxed.cell (OwnFrom.putObj (β := Unit) (B := w6.heap.size) (I := fun _ X => Boxed X (w.heap.size + 1 + 1) 4 (.bool false)) (Own.from (boxed_own _ _ _) _) (s := ()) _ hbx hD hK2 rfl)
    · exact hbelW.trans (belowK_b (w := w) (Nat.le_refl _) _ Dd _ _ (by have := hB6.size; omega) hK2 rfl rfl)
  case stop =>
    rintro Dd c pre W hD _ ⟨rfl, ⟨hex, brW⟩, hkW⟩ hK
    have hbt : b = true := HBI.out.2 hex
    subst hbt
    have hbelW : Below w.heap.size w W := hB6.trans hkW.1
    gi_wp2
    refine ⟨by simp, .inl ⟨_, _, rfl, run_takeDeferred hK, ?_⟩⟩
    refine ⟨_, results_cell1 rfl _ _ ⟨w.heap.size + 1 + 1, 0, none⟩ (.bool true) rfl ?_ (by kernel_rfl), rfl, ?_⟩
    · exact Boxed.cell (OwnFrom.putObj (β := Unit) (B := w6.heap.size) (I := fun _ X => Boxed X (w.heap.size + 1 + 1) 4 (.bool true)) (Own.from (boxed_own _ _ _) _) (s := ()) _ brW hD hK rfl)
    · exact hbelW.trans (belowK_b (w := w) (Nat.le_refl _) _ Dd _ _ (by have := hB6.size; omega) hK rfl rfl)
end
end Go.Proofs.Ytalfpbalekbinaa
