import Derived.Test.YtalfpbalekbinaaGreatMg21
import Derived.Test.YtalfpbalekbinaaGreatMg23
import Derived.Deep.RegionHeld3
import Derived.Test.YtalfpbalekbinaaGreatMg15
import Derived.Laws.EntriesVeiled
/-
  part: a graph falls into its blocks.
-/
namespace Go.Proofs.YtalfpbalekbinaaGreat
open Go.RowKit Go.Sort

/-- What part answers of a valid graph. -/
def PartYes (n : Nat) (es : List (Int × Int)) (w : World) (e : Ending) (w' : World) : Prop :=
  ∃ p av mb lo lc s F D K go, e = .returned (.tuple #[.pointer (some ⟨p, 0, none⟩), .int .i64 0]) ∧ PtIn w' p av mb lo lc (.slice (some ⟨go, 0, none⟩) es.length es.length) n es s F D K ∧ IntsBlk w' go (Bl.nums es.length (Bl.numB (Bl.mB es s))) ∧ w.heap.size ≤ go ∧ Below w.heap.size w w'

theorem FinIn.fresh {w0 : World} {av : Value} {n : Nat} {es : List (Int × Int)} {f : For} {s : Df.St} (h1 : IsAdj w0 av n es) (h2 : Si.Val n es) (h3 : LstF w0 f s) (h4 : Df.VF n es s) :
    FinAt ⟨w0.heap.size + 2, w0.heap.size + 1, w0.heap.size, av, n, es, f, s⟩ w0 ((w0.alloc (.map #[] 0)).alloc (.cells #[av, .slice f.a1 n f.c1, .slice f.a2 n f.c2, .slice f.a3 n f.c3, .slice f.a4 es.length f.c4, .slice none 0 0, .slice none 0 0, .map (some w0.heap.size)] 68)) [] [] [] := by
  have hs : (w0.alloc (.map #[] 0)).heap.size = w0.heap.size + 1 := by simp
  refine ⟨.slice none 0 0, .slice none 0 0, .map [], fun _ => False, ⟨h1, h2, h3, h4, Nat.le_refl _, by show _ ≤ _ + 1; omega, by show w0.heap.size < w0.heap.size + 2; omega, by show _ + 1 < _ + 2; omega, by show w0.heap.size ≠ w0.heap.size + 1; omega⟩, ?_, ?_, ?_, .nil _ _, .nil _ _, .inl rfl, ?_, ?_, ?_, ?_⟩
  · exact ((Below.refl _ _).alloc (Nat.le_refl _) _).alloc (by simp) _
  · show _ + 2 ≤ _
    simp
  · have := heap_alloc_new (w0.alloc (.map #[] 0)) (.cells #[av, .slice f.a1 n f.c1, .slice f.a2 n f.c2, .slice f.a3 n f.c3, .slice f.a4 es.length f.c4, .slice none 0 0, .slice none 0 0, .map (some w0.heap.size)] 68)
    rw [hs] at this
    exact this
  · exact (World.ownsMap_made w0 _ _ _).alloc _
  · intro kl
    exact ⟨fun h => (by cases h), fun ⟨L, hL, _⟩ => (by cases hL)⟩
  · intro L hL
    cases hL
  · intro g hg
    cases hg

theorem FinAt.mp {x : Fx} {w0 w : World} {S : List (Nat × Int)} {Y : List Nat} {F : List (List Nat)} (h : FinAt x w0 w S Y F) : (∃ D, Mp w x.mb F D) ∧ w.cell? ⟨x.p, 7, none⟩ = some (.map (some x.mb)) ∧ Below w0.heap.size w0 w := by
  obtain ⟨sv, yv, D, G, h⟩ := h
  refine ⟨⟨D, h.map, h.keys, fun L hL => ?_⟩, (h.cells (i := 7) rfl).1, h.below⟩
  obtain ⟨g, e, _, _, hi⟩ := h.rows L hL
  exact ⟨g, e, hi⟩

set_option maxRecDepth 100000 in
set_option maxHeartbeats 16000000 in
theorem part_no (n : Int) (ao : Option Addr) (cap : Nat) (es : List (Int × Int)) (w : World) (he : EdgesAt w ao es) (hl : es.length ≤ 4611686018427387904) (hv : Si.valid n es = false) :
    Calls Tryz.prog 17 #[graphVal n ao es.length cap] w fun e w' => e = .returned (.tuple #[.pointer none, .int .i64 1]) ∧ Below w.heap.size w w' := by
  have hb1 : Below w.heap.size w (w.alloc (.cells #[.int .i64 n, .slice ao es.length cap] 24)) := (Below.refl _ _).alloc (Nat.le_refl _) _
  have HN := Nu.hid ((cnew_any n ao cap es _ (he.later hb1) hl).mono (R' := fun e w' => e = .returned (.tuple #[.pointer none, .int .i64 1]) ∧ Below (w.alloc (.cells #[.int .i64 n, .slice ao es.length cap] 24)).heap.size (w.alloc (.cells #[.int .i64 n, .slice ao es.length cap] 24)) w') (by
    rintro e w' ⟨⟨m, p, _, hval, _⟩ | ⟨_, h1⟩, h2⟩
    · exact absurd (Si.valid_iff.2 hval) (by rw [hv]; decide)
    · exact ⟨h1, h2⟩))
  have HB1 := Nu.hid hb1
  unfold graphVal at HN ⊢
  clear he hb1
  go_enter Tryz.func17, Tryz.ntmps17
  go_wp2_with (go_at_call 29; refine HN.out.mono ?_; rintro e w2 ⟨rfl, hb2⟩; have HB2 := Nu.hid (HB1.out.trans (hb2.mono HB1.out.size)); clear hb2)
  go_ret2
  exact ⟨rfl, HB2.out⟩

set_option maxRecDepth 100000 in
set_option maxHeartbeats 16000000 in
theorem part_yes (n : Nat) (ao : Option Addr) (cap : Nat) (es : List (Int × Int)) (w : World) (he : EdgesAt w ao es) (hval : Si.Val n es) :
    Calls Tryz.prog 17 #[graphVal n ao es.length cap] w (PartYes n es w) := by
  have hfew := hval.few
  have hhi := hval.hi
  have hl : es.length ≤ 4611686018427387904 := by omega
  have hvt := Si.valid_iff.2 hval
  obtain ⟨w1, hw1⟩ : ∃ w1, w1 = w.alloc (.cells #[.int .i64 (n : Int), .slice ao es.length cap] 24) := ⟨_, rfl⟩
  have hb1 : Below w.heap.size w w1 := by rw [hw1]; exact (Below.refl _ _).alloc (Nat.le_refl _) _
  have hG1 : w1.heap[w.heap.size]? = some (.cells #[.int .i64 (n : Int), .slice ao es.length cap] 24 (0, 0)) := by rw [hw1]; exact heap_alloc_new w _
  have HN : Hid (Calls Tryz.prog 29 #[graphVal n ao es.length cap] w1 fun e w' => ∃ p, e = .returned (.tuple #[.pointer (some ⟨p, 0, none⟩), .int .i64 0]) ∧ IsAdj w' (.pointer (some ⟨p, 0, none⟩)) n es ∧ Below w1.heap.size w1 w') := (cnew_any n ao cap es _ (he.later hb1) hl).mono (by
    rintro e w' ⟨⟨m, p, hm, hval', h1, h2⟩ | ⟨h0, _⟩, h3⟩
    · have : n = m := by omega
      subst this
      exact ⟨p, h1, .inr ⟨_, p, rfl, hval, h2⟩, h3⟩
    · rw [hvt] at h0
      cases h0)
  have HWK : Hid (∀ W, Below w.heap.size w W → Calls Tryz.prog 30 #[graphVal n ao es.length cap] W fun e w' => ∃ (f : For) (s : Df.St), e = .returned (.tuple #[.agg #[.slice f.a1 n f.c1, .slice f.a2 n f.c2, .slice f.a3 n f.c3, .slice f.a4 es.length f.c4], .int .i64 0]) ∧ LstF w' f s ∧ Df.VF n es s ∧ Below W.heap.size W w') := fun W hW => (dwalk_any n ao cap es W (he.later hW) hl).mono (by
    rintro e w' ⟨v1, v2, v3, v4, s, z, h1, h2, h3 | h3, h4⟩
    · obtain ⟨m, hm, _, hwk, rfl⟩ := h3
      have : n = m := by omega
      subst this
      have hvf := hwk.vf hval
      have hlen := hvf.lens
      obtain ⟨f, e1, e2, e3, e4, hlst⟩ := h2.lst ⟨by rw [hlen.1]; omega, by rw [hlen.2.1]; omega, by rw [hlen.2.2.1]; omega, by rw [hlen.2.2.2]; omega⟩
      rw [hlen.1] at e1
      rw [hlen.2.1] at e2
      rw [hlen.2.2.1] at e3
      rw [hlen.2.2.2] at e4
      exact ⟨f, s, by rw [h1, e1, e2, e3, e4], hlst, hvf, h4⟩
    · rw [hvt] at h3
      cases h3.1)
  have HW1 := Nu.hid hw1
  unfold graphVal at HN HWK ⊢
  have hmm := @run_makeMap Tryz.prog
  clear he hw1
  go_enter Tryz.func17, Tryz.ntmps17
  go_wp2_with (go_at_call 29; rw [← HW1.out]; refine HN.out.mono ?_; rintro e w2 ⟨pa, rfl, hadj, hb2⟩; refine Hid.out ?_)
  refine Nu.hid ?_
  have hB2 : Below w.heap.size w w2 := hb1.trans (hb2.mono hb1.size)
  obtain ⟨x0, x1, -⟩ := pair_cells ((hb2.block _ (lt_of_block hG1)).trans hG1)
  have HADJ := Nu.hid hadj
  have HB2 := Nu.hid hB2
  have HWK2 := Nu.hid (HWK.out w2 hB2)
  clear hb2 hG1 HWK HN hadj hB2 hb1
  go_wp2_with (go_at_call 30; refine HWK2.out.mono ?_; rintro e w3 ⟨f, s, rfl, hlst, hvf, hb3⟩; refine Hid.out ?_)
  refine Nu.hid ?_
  have HADJ3 := Nu.hid (HADJ.out.later hb3)
  have HB3 := Nu.hid (HB2.out.trans (hb3.mono HB2.out.size))
  have HLST := Nu.hid hlst
  have HVF := Nu.hid hvf
  clear hlst hvf hb3 x0 x1 HWK2
  obtain ⟨w4, hw4⟩ : ∃ w4, w4 = w3.alloc (.cells #[.slice f.a1 n f.c1, .slice f.a2 n f.c2, .slice f.a3 n f.c3, .slice f.a4 es.length f.c4] 62) := ⟨_, rfl⟩
  have hb4 : Below w3.heap.size w3 w4 := by rw [hw4]; exact (Below.refl _ _).alloc (Nat.le_refl _) _
  have hs4 : w4.heap.size = w3.heap.size + 1 := by rw [hw4]; simp
  have HFD : Hid (Calls Tryz.prog 31 #[.pointer (some ⟨w3.heap.size + 1 + 1, 0, none⟩)] ((w4.alloc (.map #[] 0)).alloc (.cells #[.pointer (some ⟨pa, 0, none⟩), .slice f.a1 n f.c1, .slice f.a2 n f.c2, .slice f.a3 n f.c3, .slice f.a4 es.length f.c4, .slice none 0 0, .slice none 0 0, .map (some (w3.heap.size + 1))] 68)) fun e w' => e = .returned (.tuple #[]) ∧ ∃ F D, Mp w' (w3.heap.size + 1) F D ∧ Bl.Parted es s F ∧ w'.cell? ⟨w3.heap.size + 1 + 1, 7, none⟩ = some (.map (some (w3.heap.size + 1))) ∧ Below w4.heap.size w4 w') := by
    have h5 := FinIn.fresh (w0 := w4) (HADJ3.out.later hb4) hval (HLST.out.later hb4) HVF.out
    rw [hs4] at h5
    refine (find_any9 ⟨w3.heap.size + 1 + 2, w3.heap.size + 1 + 1, w3.heap.size + 1, .pointer (some ⟨pa, 0, none⟩), n, es, f, s⟩ w4 _ h5).mono ?_
    rintro e w' ⟨h1, S, Y, F, h2, h3⟩
    obtain ⟨⟨D, q1⟩, q2, q3⟩ := h2.mp
    exact ⟨h1, F, D, q1, h3.parted hval HVF.out, q2, q3⟩
  have HW4 := Nu.hid hw4
  have HB4 := Nu.hid hb4
  have HS4 := Nu.hid hs4
  clear hw4 hb4 hs4
  go_wp2_with (go_at_call 31; rw [← HW4.out]; refine HFD.out.mono ?_; rintro e w6 ⟨rfl, F, D, hmp, hpt, c7, hb6⟩; refine Hid.out ?_)
  refine Nu.hid ?_
  have hF := hpt.few
  have hlt : ∀ L ∈ F, Bl.mn L < 4194304 := fun L hL => by have := hpt.lt hL (Bl.mn_mem (hpt.one L hL).1); omega
  have HKS : Hid (∀ W, Below w6.heap.size w6 W → Calls Tryz.prog 32 #[.map (some (w3.heap.size + 1))] W fun e w' => ∃ lo lc K, e = .returned (.slice lo (List.length K) lc) ∧ Bl.KeysOf F K ∧ IntsAt w' lo (K.map Nat.cast) ∧ Below W.heap.size W w') := fun W hW => (keys_any9 (w3.heap.size + 1) F D W (hmp.later hW) (by omega) hlt hpt.nodup).mono (by
    rintro e w' ⟨v, K, h1, h2, h3, h4⟩
    obtain ⟨lo, lc, e1, h5, _⟩ := h3.form
    rw [List.length_map] at e1
    exact ⟨lo, lc, K, by rw [h1, e1], h2, h5, h4⟩)
  have HS : Hid (∀ W, Below w6.heap.size w6 W → W.cell? ⟨w3.heap.size + 1 + 1, 7, none⟩ = some (.map (some (w3.heap.size + 1))) ∧ Below w6.heap.size w6 W) := fun W hW => ⟨(hW.cell (p := ⟨w3.heap.size + 1 + 1, 7, none⟩) (block_lt_of_cell c7)).trans c7, hW⟩
  have hbd : Below w6.heap.size w6 w6.drew := (Below.refl _ _).drew
  have HMP := Nu.hid hmp
  have HPT := Nu.hid hpt
  have HB6 := Nu.hid hb6
  have HC7 := Nu.hid c7
  clear hmp hpt c7 hb6 hlt HFD
  go_wp2_with fail
  go_region_held3 (fun X => X.cell? ⟨w3.heap.size + 1 + 1, 7, none⟩ = some (.map (some (w3.heap.size + 1))) ∧ Below w6.heap.size w6 X)
    (exact HS.out _ (by first | assumption | exact hbd | exact hb76.alloc hb76.size _))
    ((go_at_call 32; refine (HKS.out _ (by first | assumption | exact hbd)).mono ?_; rintro e w7 ⟨lo, lc, K, rfl, hK, hat, hb7⟩; have hb76 : Below w6.heap.size w6 w7 := Below.trans (by first | assumption | exact hbd) (hb7.mono (Below.size (by first | assumption | exact hbd)))))
  all_goals
    clear HS HKS hbd hb7
    obtain ⟨w8, hw8⟩ : ∃ w8, w8 = w7.alloc (.cells #[.pointer (some ⟨pa, 0, none⟩), .map (some (w3.heap.size + 1)), .slice lo (List.length K) lc, .slice none 0 0] 56) := ⟨_, rfl⟩
    have hb8 : Below w7.heap.size w7 w8 := by rw [hw8]; exact (Below.refl _ _).alloc (Nat.le_refl _) _
    have hs8 : w8.heap.size = w7.heap.size + 1 := by rw [hw8]; simp
    have hblk8 : w8.heap[w7.heap.size]? = some (.cells #[.pointer (some ⟨pa, 0, none⟩), .map (some (w3.heap.size + 1)), .slice lo (List.length K) lc, .slice none 0 0] 56 (0, 0)) := by rw [hw8]; exact heap_alloc_new w7 _
    have hadj7 : IsAdj w7 (.pointer (some ⟨pa, 0, none⟩)) n es := ((HADJ3.out.later HB4.out).later HB6.out).later hb76
    have hkey := HPT.out.keys hK.1 hK.2
    have hpt7 : PtIn w8 w7.heap.size (.pointer (some ⟨pa, 0, none⟩)) (w3.heap.size + 1) lo lc (.slice none 0 0) n es s F D K := ⟨hblk8, hadj7.later hb8, hval, HVF.out, (HMP.out.later hb76).later hb8, HPT.out, hkey, hat.later hb8⟩
    have HNM := Nu.hid (numbers_any9 w8 hpt7)
    have HEND : Hid (∀ w9, IntsBlk w9 w8.heap.size (Bl.nums es.length (Bl.numB (Bl.mB es s))) → Below w8.heap.size w8 w9 → PartYes n es w (.returned (.tuple #[.pointer (some ⟨w7.heap.size, 0, none⟩), .int .i64 0])) (w9.setCell ⟨w7.heap.size, 3, none⟩ (.slice (some ⟨w8.heap.size, 0, none⟩) es.length es.length)) ∧ w9.cell? ⟨w7.heap.size, 3, none⟩ = some (.slice none 0 0) ∧ w9.frozen? ⟨w7.heap.size, 3, none⟩ = false) := fun w9 hi9 hb9 => by
      have hblk9 : w9.heap[w7.heap.size]? = some (.cells #[.pointer (some ⟨pa, 0, none⟩), .map (some (w3.heap.size + 1)), .slice lo (List.length K) lc, .slice none 0 0] 56 (0, 0)) := (hb9.block _ (by omega)).trans hblk8
      have hbF : Below w7.heap.size w7 (w9.setCell ⟨w7.heap.size, 3, none⟩ (.slice (some ⟨w8.heap.size, 0, none⟩) es.length es.length)) := (hb8.trans (hb9.mono (by omega))).setCell (p := ⟨w7.heap.size, 3, none⟩) (Nat.le_refl _) _
      have hwb : Below w.heap.size w w7 := by
        have h4 : Below w.heap.size w w4 := HB3.out.trans (HB4.out.mono HB3.out.size)
        have h6 : Below w.heap.size w w6 := h4.trans (HB6.out.mono h4.size)
        exact h6.trans (hb76.mono h6.size)
      have hwb' := hwb.size
      refine ⟨⟨_, _, _, _, _, s, F, D, K, w8.heap.size, rfl, ⟨heap_setCell_same w9 w7.heap.size 3 _ _ _ hblk9, hadj7.later hbF, hval, HVF.out, (HMP.out.later hb76).later hbF, HPT.out, hkey, hat.later hbF⟩, ?_, by omega, hwb.trans (hbF.mono hwb')⟩, ?_⟩
      · exact (heap_setCell_other w9 ⟨w7.heap.size, 3, none⟩ w8.heap.size _ (by simp; omega)).trans hi9
      · simp [World.cell?, World.frozen?, hblk9]
    have HW8 := Nu.hid hw8
    clear hw8 hb8 hblk8 hadj7 hkey hpt7 hK hat hb76 HMP HPT HB6 HC7
    have HS8 := Nu.hid hs8
    clear hs8
    go_wp2_with (go_at_call 33; rw [← HW8.out]; refine HNM.out.mono ?_; rintro e w9 ⟨rfl, hi9, hb9⟩; refine Hid.out ?_)
    refine Nu.hid ?_
    obtain ⟨hend, cc, ff⟩ := HEND.out w9 hi9 hb9
    have HE := Nu.hid hend
    clear hend hi9 hb9 HEND HNM
    go_wp2
    go_ret2
    exact HE.out
end Go.Proofs.YtalfpbalekbinaaGreat

/-
  count; Of; isCut.
-/
namespace Go.Proofs.YtalfpbalekbinaaGreat
open Go.RowKit Go.Shelf

attribute [local go_sem] Oper.semAt_some

theorem results_cell1 {fn : Func} {p : Tmp} {ty : TypeId} {P : Program} (h : fn.results = #[.cell p ty]) (tmps : Array Value) (w : World) (a : Addr) (v : Value) (hp : tmps.getD p undef = .pointer (some a)) (hc : w.cell? a = some v) (hag : (isAgg ty).run P w = .ok false w) : (results fn tmps).run P w = .ok v w := by
  have hp' : tmps[p]?.getD undef = .pointer (some a) := by simpa using hp
  simp [results, h, go_sem, hp', hc, hag]

section
variable {w : World} {p : Nat} {av : Value} {mb : Nat} {lo : Option Addr} {lc : Nat} {ov : Value} {n : Nat} {es : List (Int × Int)} {s : Df.St} {F : List (List Nat)} {D : DataW Value} {K : List Nat}

set_option maxRecDepth 100000 in
set_option maxHeartbeats 16000000 in
theorem count_any9 (h : PtIn w p av mb lo lc ov n es s F D K) : Calls Tryz.prog 26 #[.pointer (some ⟨p, 0, none⟩)] w fun e w' => e = .returned (.int .i64 (Bl.cntB (Bl.mB es s) es.length : Int)) ∧ w' = w := by
  have hk := Bl.keys_len h.key
  obtain ⟨-, -, c2, -, -⟩ := h.cells
  rw [hk] at c2
  clear h hk
  go_enter Tryz.func26, Tryz.ntmps26
  go_wp2
  go_ret
  exact ⟨rfl, rfl⟩
end

/-- What Of answers of a valid graph. -/
def OfP9 (n : Nat) (es : List (Int × Int)) (w : World) (e : Ending) (w' : World) : Prop :=
  ∃ s go, Df.VF n es s ∧ e = .returned (.tuple #[.slice (some ⟨go, 0, none⟩) es.length es.length, .int .i64 (Bl.cntB (Bl.mB es s) es.length : Int), .int .i64 0]) ∧ IntsBlk w' go (Bl.nums es.length (Bl.numB (Bl.mB es s))) ∧ w.heap.size ≤ go ∧ Below w.heap.size w w'

set_option maxRecDepth 100000 in
set_option maxHeartbeats 16000000 in
theorem pof9_yes (n : Nat) (ao : Option Addr) (cap : Nat) (es : List (Int × Int)) (w : World) (he : EdgesAt w ao es) (hval : Si.Val n es) :
    Calls Tryz.prog 13 #[graphVal n ao es.length cap] w (OfP9 n es w) := by
  have hb1 : Below w.heap.size w (w.alloc (.cells #[.int .i64 (n : Int), .slice ao es.length cap] 24)) := (Below.refl _ _).alloc (Nat.le_refl _) _
  have HP := Nu.hid (part_yes n ao cap es _ (he.later hb1) hval)
  have HB1 := Nu.hid hb1
  unfold graphVal at HP ⊢
  clear he hb1
  go_enter Tryz.func13, Tryz.ntmps13
  go_wp2_with (go_at_call 17; refine HP.out.mono ?_; rintro e w2 ⟨p, av, mb, lo, lc, s, F, D, K, go, rfl, hpt, hio, hgo, hb2⟩; refine Hid.out ?_)
  refine Nu.hid ?_
  have HB2 := Nu.hid (HB1.out.trans (hb2.mono HB1.out.size))
  have hpL : ∀ E : LW w2, PtIn E.val p av mb lo lc (.slice (some ⟨go, 0, none⟩) es.length es.length) n es s F D K := fun E => hpt.later E.h
  have c3 : ∀ E : LW w2, E.val.cell? ⟨p, 3, none⟩ = some (.slice (some ⟨go, 0, none⟩) es.length es.length) := fun E => (hpL E).cells.2.2.2.1
  have HCN : Hid (∀ E : LW w2, Calls Tryz.prog 26 #[.pointer (some ⟨p, 0, none⟩)] E.val fun e w' => e = .returned (.int .i64 (Bl.cntB (Bl.mB es s) es.length : Int)) ∧ Below E.val.heap.size E.val w') := fun E => (count_any9 (hpL E)).mono fun e w' ⟨h1, h2⟩ => ⟨h1, by rw [h2]; exact Below.refl _ _⟩
  have HVF := Nu.hid hpt.vf
  have HIO := Nu.hid hio
  have HGO : Hid (w.heap.size ≤ go) := Nat.le_trans HB1.out.size hgo
  have hne := LW.any w2
  clear hpt hio hgo hb2 hpL
  go_wp2_with fail
  refine wp_region_lw (by kernel_rfl) (by kernel_rfl) ?_
  repeat (go_big_quiet_step ((first | (go_at_call 26; exact Calls.lw (HCN.out _)))))
  refine wpQuiet_nil ?_
  rintro _ ⟨E, rfl⟩
  go_wp2
  go_ret3
  exact ⟨s, go, HVF.out, rfl, HIO.out.later E.h, HGO.out, HB2.out.trans (E.h.mono HB2.out.size)⟩

set_option maxRecDepth 100000 in
set_option maxHeartbeats 16000000 in
theorem pof9_no (n : Int) (ao : Option Addr) (cap : Nat) (es : List (Int × Int)) (w : World) (he : EdgesAt w ao es) (hl : es.length ≤ 4611686018427387904) (hv : Si.valid n es = false) :
    Calls Tryz.prog 13 #[graphVal n ao es.length cap] w fun e w' => e = .returned (.tuple #[.slice none 0 0, .int .i64 0, .int .i64 1]) ∧ Below w.heap.size w w' := by
  have hb1 : Below w.heap.size w (w.alloc (.cells #[.int .i64 n, .slice ao es.length cap] 24)) := (Below.refl _ _).alloc (Nat.le_refl _) _
  have HP := Nu.hid (part_no n ao cap es _ (he.later hb1) hl hv)
  have HB1 := Nu.hid hb1
  unfold graphVal at HP ⊢
  clear he hb1
  go_enter Tryz.func13, Tryz.ntmps13
  go_wp2_with (go_at_call 17; refine HP.out.mono ?_; rintro e w2 ⟨rfl, hb2⟩; have HB2 := Nu.hid (HB1.out.trans (hb2.mono HB1.out.size)); clear hb2)
  go_ret3
  exact ⟨rfl, HB2.out⟩
end Go.Proofs.YtalfpbalekbinaaGreat

/-
  isCut: is an edge of v in another block than its first one?
-/
namespace Go.Proofs.YtalfpbalekbinaaGreat
open Go.RowKit Go.Shelf

attribute [local go_sem] Oper.semAt_some

namespace Bl
/-- By a half-edge, the number of its edge's block. -/
def nh (f : Nat → Nat) (h : Int) : Nat := f (h.toNat / 2)
end Bl

section
variable {w : World} {p : Nat} {av : Value} {mb : Nat} {lo : Option Addr} {lc : Nat} {go : Nat} {n : Nat} {es : List (Int × Int)} {s : Df.St} {F : List (List Nat)} {D : DataW Value} {K : List Nat}

theorem nat_half {i jh : Nat} (h : i / 2 = jh) : (i : Int).tdiv 2 = (jh : Int) ∧ (i : Int) / 2 = (jh : Int) := by
  refine ⟨?_, by omega⟩
  rw [Int.tdiv_eq_ediv_of_nonneg (by omega)]
  omega

set_option maxRecDepth 100000 in
set_option maxHeartbeats 16000000 in
theorem isCut_any9 (f : Nat → Nat) (v : Nat) (hv : v < n) (h : PtIn w p av mb lo lc (.slice (some ⟨go, 0, none⟩) es.length es.length) n es s F D K) (hio : IntsBlk w go (Bl.nums es.length f)) (b : Bool) (hb : b = true ↔ ∃ z ∈ Cs.outZ n es v, Bl.nh f z ≠ Bl.nh f (Cs.firstI n es v)) :
    Calls Tryz.prog 35 #[.pointer (some ⟨p, 0, none⟩), .int .i64 (v : Int)] w fun e w' => e = .returned (.bool b) ∧ Below w.heap.size w w' := by
  have hfew := h.val.few
  have hpl := h.lt
  obtain ⟨c0, -, -, c3, -⟩ := h.cells
  have hgl := hio.lt
  obtain ⟨W1, hW1⟩ : ∃ W1, W1 = (w.alloc (.cells #[.pointer (some ⟨p, 0, none⟩)] 41)).alloc (.cells #[.bool false] 4) := ⟨_, rfl⟩
  have hbW : Below w.heap.size w W1 := by rw [hW1]; exact ((Below.refl _ _).alloc (Nat.le_refl _) _).alloc (by simp) _
  have hsW : W1.heap.size = w.heap.size + 1 + 1 := by rw [hW1]; simp
  have bp1 : Boxed W1 w.heap.size 41 (.pointer (some ⟨p, 0, none⟩)) := by rw [hW1]; exact (Boxed.new w _ _).alloc _
  have br1 : Boxed W1 (w.heap.size + 1) 4 (.bool false) := by
    have := Boxed.new (w.alloc (.cells #[.pointer (some ⟨p, 0, none⟩)] 41)) 4 (.bool false)
    rw [World.size_alloc] at this
    rw [hW1]
    exact this
  obtain ⟨z0, hz0⟩ : ∃ z0, Cs.firstI n es v = z0 := ⟨_, rfl⟩
  rw [hz0] at hb
  have HFI : Hid (Calls Tryz.prog 57 #[av, .int .i64 (v : Int)] W1 fun e w' => e = .returned (.int .i64 z0) ∧ Below W1.heap.size W1 w') := by
    have := first_any av n es (v : Int) W1 (h.adj.later hbW)
    rw [hz0] at this
    refine this.mono ?_
    rintro e w' ⟨h1, k, rfl⟩
    exact ⟨h1, below_drewN (Below.refl _ _) k⟩
  have HOUT : Hid (∀ X, Below w.heap.size w X → Calls Tryz.prog 58 #[av, .int .i64 (v : Int)] X (ItPost8 n es (v : Int) w X)) := fun X hX => citer8_any av n es (v : Int) w X h.adj hX
  have hzl : (Cs.outZ n es v).length ≤ 8388608 := by
    rw [Cs.outZ_len]
    have := Cs.outI_len_le (n := n) (es := es) (v := (v : Int))
    omega
  have HZL := Nu.hid hzl
  have H := Nu.hid h
  have HIO := Nu.hid hio
  have HBI := Nu.hid hb
  have HZ0 := Nu.hid hz0
  have HW1 := Nu.hid hW1
  have HBW := Nu.hid hbW
  have HSW := Nu.hid hsW
  clear h hio hb hz0 hzl hW1 hbW hsW
  refine (callsIn_wide (n := 9)).1 ?_
  refine callsIn_of_wp_marks Tryz.func35 rfl trivial ?_ rfl
  simp only [Tryz.ntmps35, List.size_toArray, List.length_cons, List.length_nil, Nat.reduceAdd, Nat.reduceSub, Array.replicate_succ, Array.replicate_zero, List.push_toArray, List.append_toArray, List.nil_append, List.cons_append]
  refine wpIn_wide.2 ?_
  go_wp2_with (first | (go_at_call 57; rw [← HW1.out]; refine HFI.out.mono ?_; rintro e w1 ⟨rfl, hb2⟩; refine Hid.out ?_))
  refine Nu.hid ?_
  have bp2 : Boxed w1 w.heap.size 41 (.pointer (some ⟨p, 0, none⟩)) := (hb2.block _ bp1.lt).trans bp1
  have br2 : Boxed w1 (w.heap.size + 1) 4 (.bool false) := (hb2.block _ br1.lt).trans br1
  have hB2 : Below w.heap.size w w1 := HBW.out.trans (hb2.mono HBW.out.size)
  obtain ⟨c0', -, -, -, -⟩ := (H.out.later hB2).cells
  have cbp := Boxed.cell bp2
  have HB2 := Nu.hid hB2
  clear hb2 c0 c3 bp1 br1 HFI hB2
  obtain ⟨w2, hw2⟩ : ∃ w2, w2 = w1.alloc (.cells #[.int .i64 z0] 3) := ⟨_, rfl⟩
  have hb3 : Below w1.heap.size w1 w2 := by rw [hw2]; exact (Below.refl _ _).alloc (Nat.le_refl _) _
  have bf2 : Boxed w2 w1.heap.size 3 (.int .i64 z0) := by rw [hw2]; exact Boxed.new w1 _ _
  have HW2 := Nu.hid hw2
  have hB3 : Below w.heap.size w w2 := HB2.out.trans (hb3.mono HB2.out.size)
  have bp3 : Boxed w2 w.heap.size 41 (.pointer (some ⟨p, 0, none⟩)) := (hb3.block _ bp2.lt).trans bp2
  have br3 : Boxed w2 (w.heap.size + 1) 4 (.bool false) := (hb3.block _ br2.lt).trans br2
  have hrl := br2.lt
  have hpl1 : p < w1.heap.size := by have := HB2.out.size; omega
  have HOUT2 := Nu.hid (HOUT.out w2 hB3)
  have hbpl := bp2.lt
  clear hw2 hb3 HOUT
  go_wp2_with (go_at_call 58; rw [← HW2.out]; refine HOUT2.out.mono ?_; rintro e w6 ⟨Bs, ao, cap, rfl, hBse, hbox, hints, hb6⟩; have HBS : Hid (Bs = w2.heap.size) := hBse; clear hBse)
  refine (wpIn_wide (n := 9)).1 ?_
  have hB6 : Below w.heap.size w w6 := hB3.trans (hb6.mono hB3.size)
  have hund : IntsUnder w.heap.size w6 ao (Cs.outZ n es v) := hints.under hB6
  have bp6 : Boxed w6 w.heap.size 41 (.pointer (some ⟨p, 0, none⟩)) := (hb6.block _ bp3.lt).trans bp3
  have br6 : Boxed w6 (w.heap.size + 1) 4 (.bool false) := (hb6.block _ br3.lt).trans br3
  have bf6 : Boxed w6 w1.heap.size 3 (.int .i64 z0) := (hb6.block _ bf2.lt).trans bf2
  refine it_out (n := 9) (gf := 81) (lb := #[.pointer (some ⟨Bs, 0, none⟩)]) (by rfl) (enters_of Tryz.func81 (by kernel_rfl) rfl)
    (out_it Bs w.heap.size cap (fun _ => False) ao (Cs.outZ n es v) HZL.out w6 hB6.size (fun h => h) hbox hund) hB6.size (fun _ => rfl)
    (fun pre W => (∀ z ∈ pre, Bl.nh f z = Bl.nh f z0) ∧ Kep w.heap.size (fun _ => False) w6 W) (fun c _ W => c = .ret ∧ ((∃ z ∈ Cs.outZ n es v, Bl.nh f z ≠ Bl.nh f z0) ∧ Boxed W (w.heap.size + 1) 4 (.bool true)) ∧ Kep w.heap.size (fun b => b = w.heap.size + 1) w6 W)
    (OwnFrom.and (fun _ _ _ _ hs _ _ => hs) (Kep.own hB6.size hB6.size)) (fun c => OwnFrom.and (fun _ _ _ _ hs _ _ => hs) (OwnFrom.and (OwnFrom.and (fun _ _ _ _ hs _ _ => hs) (Own.from (boxed_own _ _ _) _)) (Kep.own hB6.size hB6.size))) ⟨fun z hz => (by cases hz), Kep.refl _ _ _⟩
    (fun k a' _ => a' = { tmps := #[.pointer (some ⟨p, 0, none⟩), .int .i64 (v : Int), .pointer (some ⟨w.heap.size, 0, none⟩), undef, .pointer (some ⟨w.heap.size + 1, 0, none⟩), .pointer (some ⟨w1.heap.size, 0, none⟩), .int .i64 k, .pointer (some ⟨p, 0, none⟩), .pointer (some ⟨p, 0, none⟩), .pointer (some ⟨p, 0, none⟩), av, .int .i64 (v : Int), .int .i64 z0, .pointer (some ⟨p, 0, none⟩), .pointer (some ⟨p, 0, none⟩), .pointer (some ⟨p, 0, none⟩), av, .int .i64 (v : Int), .func (.func 81) #[] #[.pointer (some ⟨Bs, 0, none⟩)], .int .i64 k, undef, undef, undef, undef, undef, undef, undef, undef, undef, undef, undef, undef, undef, undef, undef, undef, undef], defers := [] })
    (fun k a' => ownFrom_pure _ _) ?assign ?body ?done ?stop
  case assign =>
    intro l2 pre k W K _ hi hK
    gi_wp2
    exact hK _ _ (KeepsFrom.refl _ _) (Kep.refl _ _ _) hi rfl
  case body =>
    rintro l2 pre k a' A ⟨hl2', -⟩ _ hpx ⟨hpre, hkA⟩ rfl
    have hkm : k ∈ Cs.outZ n es v := hpx.subset (List.mem_append_right pre (List.mem_singleton.2 rfl))
    obtain ⟨i, rfl, hi, hfr⟩ := (mem_outZ hv).1 hkm
    -- the first one is there
    have hz0m : z0 ∈ Cs.outZ n es v := by
      rw [← HZ0.out]
      unfold Cs.firstI
      cases hq : Cs.outZ n es v with
      | nil => rw [hq] at hkm; cases hkm
      | cons y l => simp
    obtain ⟨i0, rfl, hi0, -⟩ := (mem_outZ hv).1 hz0m
    have hA : Below w.heap.size w A := hB6.trans hkA.1
    obtain ⟨jh, hjh⟩ : ∃ jh, i / 2 = jh := ⟨_, rfl⟩
    obtain ⟨j0, hj0⟩ : ∃ j0, i0 / 2 = j0 := ⟨_, rfl⟩
    obtain ⟨td1, td2⟩ := nat_half hjh
    obtain ⟨td3, td4⟩ := nat_half hj0
    have q0 : (0 : Int) ≤ (jh : Int) := by omega
    have q1 : (jh : Int) < (es.length : Int) := by omega
    have q2 : (0 : Int) ≤ (j0 : Int) := by omega
    have q3 : (j0 : Int) < (es.length : Int) := by omega
    have wr1 : IntKind.i64.wrap (jh : Int) = (jh : Int) := wrap_few9 jh (by omega)
    have wr2 : IntKind.i64.wrap (j0 : Int) = (j0 : Int) := wrap_few9 j0 (by omega)
    have bpA := hkA.boxed bp6 (fun h => h)
    have bfA := hkA.boxed bf6 (fun h => h)
    have brA := hkA.boxed br6 (fun h => h)
    have cb1 : ∀ E : LW A, E.val.cell? ⟨w.heap.size, 0, none⟩ = some (.pointer (some ⟨p, 0, none⟩)) := fun E => Boxed.cell ((E.h.block _ bpA.lt).trans bpA)
    have cf1 : ∀ E : LW A, E.val.cell? ⟨w1.heap.size, 0, none⟩ = some (.int .i64 (i0 : Int)) := fun E => Boxed.cell ((E.h.block _ bfA.lt).trans bfA)
    have c31 : ∀ E : LW A, E.val.cell? ⟨p, 3, none⟩ = some (.slice (some ⟨go, 0, none⟩) es.length es.length) := fun E => ((H.out.later hA).later E.h).cells.2.2.2.1
    have d1 : ∀ E : LW A, E.val.cell? ⟨go, jh, none⟩ = some (.int .i64 (f jh : Int)) := fun E => ((HIO.out.later hA).later E.h).cell (Bl.nums_at (f := f) (by omega))
    have d2 : ∀ E : LW A, E.val.cell? ⟨go, j0, none⟩ = some (.int .i64 (f j0 : Int)) := fun E => ((HIO.out.later hA).later E.h).cell (Bl.nums_at (f := f) (by omega))
    have hne := LW.any A
    have hn1 : Bl.nh f (i : Int) = f jh := by unfold Bl.nh; rw [Int.toNat_natCast, hjh]
    have hn2 : Bl.nh f (i0 : Int) = f j0 := by unfold Bl.nh; rw [Int.toNat_natCast, hj0]
    have HKA := Nu.hid hkA
    have HPRE := Nu.hid hpre
    have HN1 := Nu.hid hn1
    have HN2 := Nu.hid hn2
    have HKM := Nu.hid hkm
    have HBR := Nu.hid brA
    have HHA := Nu.hid hA
    clear hkA hpre hn1 hn2 hkm brA bpA bfA hA hjh hj0
    by_cases hff : f jh = f j0
    · have eb : ((f jh : Int) != (f j0 : Int)) = false := by simp [hff]
      have HFF := Nu.hid hff
      clear hff
      gi_wp2
      refine wpIn_region_lw (by kernel_rfl) (by kernel_rfl) (by kernel_rfl) ?_
      repeat (go_big_quiet_step (fail))
      refine wpQuiet_nil ?_
      rintro _ ⟨E, rfl⟩
      have hE := E.h
      clear cb1 cf1 c31 d1 d2 hne
      gi_wp2
      refine ⟨kf_below hE, (Kep.refl _ _ _).grow hE HHA.out.size, fun z hz => ?_, HKA.out.grow hE HHA.out.size⟩
      rcases List.mem_append.1 hz with hz | hz
      · exact HPRE.out z hz
      · rw [List.mem_singleton.1 hz, HN1.out, HN2.out, HFF.out]
    · have eb : ((f jh : Int) != (f j0 : Int)) = true := by simp; omega
      have HFF := Nu.hid hff
      clear hff
      gi_wp2
      refine wpIn_region_lw (by kernel_rfl) (by kernel_rfl) (by kernel_rfl) ?_
      repeat (go_big_quiet_step (fail))
      refine wpQuiet_nil ?_
      rintro _ ⟨E, rfl⟩
      obtain ⟨A2, hA2e⟩ : ∃ A2, A2 = E.val := ⟨_, rfl⟩
      have hA2 : Below A.heap.size A A2 := by rw [hA2e]; exact E.h
      have brE : Boxed A2 (w.heap.size + 1) 4 (.bool false) := (hA2.block _ HBR.out.lt).trans HBR.out
      have cr := brE.cell
      have fr := brE.frozen
      rw [← hA2e]
      have HBE := Nu.hid brE
      have HEND : Hid (KeepsFrom w6.heap.size A (A2.setCell ⟨w.heap.size + 1, 0, none⟩ (.bool true)) ∧ ((∃ z ∈ Cs.outZ n es v, Bl.nh f z ≠ Bl.nh f (i0 : Int)) ∧ Boxed (A2.setCell ⟨w.heap.size + 1, 0, none⟩ (.bool true)) (w.heap.size + 1) 4 (.bool true)) ∧ Kep w.heap.size (fun b => b = w.heap.size + 1) w6 (A2.setCell ⟨w.heap.size + 1, 0, none⟩ (.bool true))) := by
        refine ⟨(kf_below hA2).trans (kf_wrote (S := fun k => k = w.heap.size + 1) ((Wrote.refl (fun k => k = w.heap.size + 1) A2).setCell (b := w.heap.size + 1) (i := 0) rfl (.bool true)) (fun k _ hk => .inl (by rw [hk]; exact br6.lt))), ⟨⟨(i : Int), HKM.out, by rw [HN1.out, HN2.out]; exact HFF.out⟩, HBE.out.set _⟩, ?_⟩
        have h1 : Kep w.heap.size (fun b => b = w.heap.size + 1) w6 A := ⟨HKA.out.1, fun b o hb ho _ => HKA.out.2 b o hb ho (fun h => h)⟩
        exact (h1.grow hA2 HHA.out.size).set (p := ⟨w.heap.size + 1, 0, none⟩) (by show _ ≤ _ + 1; omega) rfl _
      clear cb1 cf1 c31 d1 d2 hne hA2e hA2 brE
      gi_wp2
      exact ⟨HEND.out.1, rfl, HEND.out.2⟩
  case done =>
    rintro Dd W hD ⟨hall, hkW⟩ hK
    have brW := hkW.boxed br6 (fun h => h)
    have cr := brW.cell
    have fr := brW.frozen
    have hbf : b = false := by
      cases hq : b with
      | false => rfl
      | true =>
        obtain ⟨z, hz, hne⟩ := HBI.out.1 hq
        exact absurd (hall z hz) hne
    subst hbf
    have hrl6 := br6.lt
    have hDK := hK
    have HBW2 := Nu.hid brW
    have HKW := Nu.hid hkW
    have HK := Nu.hid hK
    clear hall hkW brW hK hDK
    go_wp2
    have hK2 : (W.setCell ⟨w.heap.size + 1, 0, none⟩ (.bool false)).heap[Dd]? = some (.deferred (some [])) := (heap_setCell_other W ⟨w.heap.size + 1, 0, none⟩ Dd _ (by simp; omega)).trans HK.out
    refine ⟨by simp, .inl ⟨_, _, rfl, run_takeDeferred hK2, ?_⟩⟩
    have hbx : Boxed (W.setCell ⟨w.heap.size + 1, 0, none⟩ (.bool false)) (w.heap.size + 1) 4 (.bool false) := HBW2.out.set _
    have hbelW : Below w.heap.size w (W.setCell ⟨w.heap.size + 1, 0, none⟩ (.bool false)) := (hB6.trans HKW.out.1).setCell (p := ⟨w.heap.size + 1, 0, none⟩) (by show _ ≤ _ + 1; omega) _
    refine ⟨_, results_cell1 rfl _ _ ⟨w.heap.size + 1, 0, none⟩ (.bool false) rfl ?_ (by kernel_rfl), rfl, ?_⟩
    · exact Boxed.cell (OwnFrom.putObj (β := Unit) (B := w6.heap.size) (I := fun _ X => Boxed X (w.heap.size + 1) 4 (.bool false)) (Own.from (boxed_own _ _ _) _) (s := ()) _ hbx hD hK2 rfl)
    · exact hbelW.trans (belowK_b (w := w) (Nat.le_refl _) _ Dd _ _ (by have := hB6.size; omega) hK2 rfl rfl)
  case stop =>
    rintro Dd c pre W hD _ ⟨rfl, ⟨hex, brW⟩, hkW⟩ hK
    have hbt : b = true := HBI.out.2 hex
    subst hbt
    have hbelW : Below w.heap.size w W := hB6.trans hkW.1
    gi_wp2
    refine ⟨by simp, .inl ⟨_, _, rfl, run_takeDeferred hK, ?_⟩⟩
    refine ⟨_, results_cell1 rfl _ _ ⟨w.heap.size + 1, 0, none⟩ (.bool true) rfl ?_ (by kernel_rfl), rfl, ?_⟩
    · exact Boxed.cell (OwnFrom.putObj (β := Unit) (B := w6.heap.size) (I := fun _ X => Boxed X (w.heap.size + 1) 4 (.bool true)) (Own.from (boxed_own _ _ _) _) (s := ()) _ brW hD hK rfl)
    · exact hbelW.trans (belowK_b (w := w) (Nat.le_refl _) _ Dd _ _ (by have := hB6.size; omega) hK rfl rfl)
end
end Go.Proofs.YtalfpbalekbinaaGreat
