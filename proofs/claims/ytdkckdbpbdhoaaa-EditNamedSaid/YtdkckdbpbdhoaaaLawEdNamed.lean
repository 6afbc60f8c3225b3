/-
  Proved: for every graph and list the law EditNamed answers true, and what is handed in reads afterwards as before. No condition.
-/
import Derived.Test.YtdkckdbpbdhoaaaEdLw
import Derived.Test.YtdkckdbpbdhoaaaEdCo
import Derived.Test.YtdkckdbpbdhoaaaEdI
import Derived.Test.YtdkckdbpbdhoaaaEdW3
import Derived.Test.YtdkckdbpbdhoaaaEdW7
import Derived.Test.YtdkckdbpbdhoaaaEdW8
import Derived.Test.YtdkckdbpbdhoaaaEdW9
import Derived.Test.YtdkckdbpbdhoaaaSiEq
import Derived.Test.YtdkckdbpbdhoaaaSiRValid
import Derived.Test.YtdkckdbpbdhoaaaSiGin
import Derived.Test.YtdkckdbpbdhoaaaLst
import Derived.Deep.CutRange
namespace Go.Proofs.Ytdkckdbpbdhoaaa
open Go.ChangeShapes Go.WideShapes Go.ChangeAt Go.RowKit

/-- The graph that came in lies in its box. -/
structure OneB (w : World) (n : Int) (ao : Option Addr) (ca : Nat) (es : List (Int × Int)) (W : World) : Prop where
  low : Below w.heap.size w W
  box : W.heap[w.heap.size]? = some (.cells #[.int .i64 n, .slice ao es.length ca] 24 (0, 0))
theorem OneB.later {w W W' : World} {n : Int} {ao : Option Addr} {ca : Nat} {es : List (Int × Int)} (h : OneB w n ao ca es W) (hb : Below W.heap.size W W') : OneB w n ao ca es W' := ⟨h.low.trans (hb.mono h.low.size), blk_later h.box hb⟩

namespace lawEN

set_option maxRecDepth 100000 in
set_option maxHeartbeats 16000000 in
theorem walk (n : Int) (ao : Option Addr) (ca : Nat) (es : List (Int × Int)) (lo : Option Addr) (q lc : Nat) (zs : List Int) (w : World) (_ : -9223372036854775808 ≤ n ∧ n ≤ 9223372036854775807) (hq : PairsIn w ao es.length ca es) (hle : es.length * 16 ≤ 140737488351232) (hz : IsRow .i64 8 w lo q lc zs) :
    Calls Try.prog 7 #[.agg #[.int .i64 n, .slice ao es.length ca], .slice lo q lc] w fun e w' => e = .returned (.bool true) ∧ Below w.heap.size w w' := by
  have hfw := hz.few
  have hlst := hz.lst
  obtain ⟨l, hl⟩ : ∃ l, zs.take q = l := ⟨_, rfl⟩
  rw [hl] at hlst
  have hat := hq.hat
  have HLST := Nu.hid hlst
  have HAT := Nu.hid hat
  have HVA : Hid (∀ W, Below w.heap.size w W → Calls Try.prog 33 #[.agg #[.int .i64 n, .slice ao es.length ca]] W fun e w' => e = .returned (.bool (Si.valid n es)) ∧ Below W.heap.size W w') := fun W hb => rvalid_any n ao ca es W (hat.later hb) (by omega)
  have HBA : Hid (∀ W, Below w.heap.size w W → Calls Try.prog 26 #[.agg #[.int .i64 n, .slice ao es.length ca]] W (BareP (Ed.bare n es) (Ed.bareL n es) W)) := fun W hb => ebare_any n ao ca es W (hat.later hb) (by omega)
  have HIN : Hid (∀ W l A C, Below w.heap.size w W → l.length ≤ 1048576 → IntsAt W A l → Calls Try.prog 24 #[.agg #[.int .i64 n, .slice ao es.length ca], .slice A l.length C] W (AnsP (Ed.induced n es l) W)) := fun W l A C hb hl h => einduced_any n A l.length C l ao ca es W (hat.later hb) (by omega) rfl h (by omega)
  have HRE : Hid (∀ W A C, Below w.heap.size w W → IntsAt W A l → Calls Try.prog 22 #[.agg #[.int .i64 n, .slice ao es.length ca], .slice A q C] W (AnsP (Ed.relabel n es l) W)) := fun W A C hb h => erelabel_any n A q C l ao ca es W (hat.later hb) (by omega) hlst.len h (by omega)
  have HT0 : Hid (OneB w n ao ca es (w.alloc (.cells #[.int .i64 n, .slice ao es.length ca] 24))) := ⟨(Below.refl _ _).alloc (Nat.le_refl _) _, heap_alloc_new w _⟩
  clear hq hat hz hl hlst
  cases hv : Si.valid n es with
  | false =>
    rw [hv] at HVA
    have hr2 : Ed.relabel n es l = (0, [], 1) := by unfold Ed.relabel; rw [if_pos hv]
    rw [hr2] at HRE
    clear hr2 hv HBA HIN
    go_enter Try.func7, Try.ntmps7
    go_wp2_with (go_at_call 9; refine (fixed14_any _).mono ?_; rintro e w1 ⟨rfl, hb⟩; refine Hid.out ?_)
    refine Nu.hid ?_
    have HT := Nu.hid (HT0.out.later hb)
    clear hb HT0
    obtain ⟨g0, g1, -⟩ := pair_cells HT.out.box
    go_wp2_with (go_at_call 33; refine (HVA.out _ HT.out.low).mono ?_; rintro e w2 ⟨rfl, hb⟩; refine Hid.out ?_)
    refine Nu.hid ?_
    have HT := Nu.hid (HT.out.later hb)
    clear hb g0 g1
    go_upto_region 4 with fail
    go_cut [5, 6] from 31 to 39 (fun p q wr => ∃ (H : Nat) (va : Option Addr) (vc : Nat), p = .pointer (some ⟨H, 0, none⟩) ∧ q = .int .i64 1 ∧ Got wr H 0 [] va vc ∧ Below w2.heap.size w2 wr)
    case first =>
      go_wp2_with fail
      refine wp_region_any (by kernel_rfl) ?_
      have hbd : Below w2.heap.size w2 { w2 with drawn := w2.drawn + 1 } := (Below.refl _ _).drew
      refine AnyOrd.anyV (CpC w2 (.agg #[.int .i64 n, .slice ao es.length ca]) (.slice lo q lc) q l 0 [] 1) 208 rfl (by kernel_rfl) (fun ρ => CpC.start hbd) ?_ ?_
      · intro j o' Ls ρ W ev ho hLi hC haft hdc he1 he2 hec hef
        have hc : j = 0 ∨ j = 1 ∨ j = 2 ∨ j = 3 ∨ j = 4 ∨ j = 5 ∨ j = 6 ∨ j = 7 ∨ j = 8 ∨ j = 9 ∨ j = 10 := by
          have : j < 11 := (Array.getElem?_eq_some_iff.1 ho).1
          omega
        have hno : ∀ u, (Ls u = true → Ls j = true) → Ls u = false := fun u h => by
          cases h' : Ls u with
          | false => rfl
          | true =>
            have := h h'
            rw [hLi] at this
            cases this
        obtain ⟨hlow, S0⟩ : Below w2.heap.size w2 W ∧ True := by
          obtain ⟨_, _, _, _, _, _, _, _, S⟩ := hC
          exact ⟨S.low, trivial⟩
        clear S0
        have hT := HT.out.later hlow
        obtain ⟨g0, g1, -⟩ := pair_cells hT.box
        rcases hc with rfl | rfl | rfl | rfl | rfl | rfl | rfl | rfl | rfl | rfl | rfl <;> obtain rfl := Option.some.inj ho
        · have e1 : ev (.tmp 2) = .pointer (some ⟨w.heap.size, 0, none⟩) := he2 2 (by kernel_rfl)
          exact AnyOrd.gives_value (v := (.agg #[.int .i64 n, .slice ao es.length ca])) (w' := W) (by simp [execOp, go_sem, e1, g0, g1]) hC.load
        · exact AnyOrd.gives_value (v := .slice (some ⟨W.heap.size, 0, none⟩) 0 0) (w' := W.alloc (.cells #[] 3)) (by simp [execOp, go_sem]) hC.new
        · have e1 : ev (.tmp 1) = .slice lo q lc := he2 1 (by kernel_rfl)
          exact AnyOrd.gives_value (v := .slice lo q lc) (w' := W) (by simp [execOp, go_sem, e1]) hC.move
        · have h1 : Ls 1 = true := haft ⟨1, .data⟩ (by simp) rfl
          have h2 : Ls 2 = true := haft ⟨2, .data⟩ (by simp) rfl
          have hC' := hC
          obtain ⟨b, _, _, _, _, _, _, _, S⟩ := hC
          have e1 : ev (.tmp 33) = .slice (some ⟨b, 0, none⟩) 0 0 := (he1 1 33 (by omega) rfl (by decide)).trans (S.v1 h1)
          have e2 : ev (.tmp 34) = .slice lo q lc := (he1 2 34 (by omega) rfl (by decide)).trans (S.v2 h2)
          obtain ⟨g, c, w', hrun, -, hown, -, hbw⟩ := run_copyI 40 W b lo q lc l (S.e1 h1 hLi).2 (HLST.out.later hT.low) hfw
          refine AnyOrd.gives_value (v := .slice (some ⟨g, 0, none⟩) q c) (w' := w') ?_ (hC'.copy hbw (ownz_at (hown _ (Nat.le_refl _))))
          simp [execOp, resolve, invoke, builtin, e1, e2, hrun, Result.andThen]
        · have h0 : Ls 0 = true := haft ⟨0, .data⟩ (by simp) rfl
          have h3 : Ls 3 = true := haft ⟨3, .data⟩ (by simp) rfl
          have hC' := hC
          obtain ⟨b, g, gc, _, _, _, _, _, S⟩ := hC
          have e1 : ev (.tmp 32) = (.agg #[.int .i64 n, .slice ao es.length ca]) := (he1 0 32 (by omega) rfl (by decide)).trans (S.v0 h0)
          have e2 : ev (.tmp 35) = .slice (some ⟨g, 0, none⟩) q gc := (he1 3 35 (by omega) rfl (by decide)).trans (S.v3 h3)
          have n5 : Ls 5 = false := hno 5 fun h => hdc 5 _ rfl h ⟨4, .data⟩ (by simp) rfl
          have n6 : Ls 6 = false := hno 6 fun h => hdc 5 _ rfl (hdc 6 _ rfl h ⟨5, .data⟩ (by simp) rfl) ⟨4, .data⟩ (by simp) rfl
          have n9 : Ls 9 = false := hno 9 fun h => hdc 9 _ rfl h ⟨4, .chain⟩ (by simp) rfl
          refine gives_enter (f := 22) (args := #[(.agg #[.int .i64 n, .slice ao es.length ca]), .slice (some ⟨g, 0, none⟩) q gc]) (by simp [execOp, go_sem, e1, e2, hef]) ?_
          refine (HRE.out W (some ⟨g, 0, none⟩) gc hT.low (S.e3 h3 hLi)).mono ?_
          rintro e w' ⟨v, rfl, hov, hbw⟩
          try dsimp only at hov
          obtain ⟨va, vc, rfl, -, -, -, -⟩ := hov.form
          exact ⟨_, rfl, hC'.call hbw hov n5 n6 n9⟩
        · have h4 : Ls 4 = true := haft ⟨4, .data⟩ (by simp) rfl
          have e1 : ev (.tmp 36) = ρ 4 := he1 4 36 (by omega) rfl (by decide)
          exact AnyOrd.gives_value (v := ρ 4) (w' := W) (by simp [execOp, go_sem, e1]) (hC.five h4)
        · have h5 : Ls 5 = true := haft ⟨5, .data⟩ (by simp) rfl
          obtain ⟨va, vc, e2, hC6⟩ := hC.six h5
          have e1 := (he1 5 31 (by omega) rfl (by decide)).trans e2
          exact AnyOrd.gives_value (v := .agg #[.int .i64 0, .slice va [].length vc]) (w' := W) (by simp [execOp, go_sem, e1]) hC6
        · have h5 : Ls 5 = true := haft ⟨5, .data⟩ (by simp) rfl
          obtain ⟨va, vc, e2, hC7⟩ := hC.seven h5
          have e1 := (he1 5 31 (by omega) rfl (by decide)).trans e2
          exact AnyOrd.gives_value (v := .int .i64 1) (w' := W) (by simp [execOp, go_sem, e1]) hC7
        · have n9 : Ls 9 = false := hno 9 fun h => hdc 9 _ rfl h ⟨8, .data⟩ (by simp) rfl
          exact AnyOrd.gives_value (v := .pointer (some ⟨W.heap.size, 0, none⟩)) (w' := W.alloc (.cells #[.int .i64 0, .slice none 0 0] 24)) (by simp [execOp, go_sem]) (hC.box n9 _ _)
        · have h8 : Ls 8 = true := haft ⟨8, .data⟩ (by simp) rfl
          have h6 : Ls 6 = true := haft ⟨6, .data⟩ (by simp) rfl
          have h4 : Ls 4 = true := haft ⟨4, .chain⟩ (by simp) rfl
          have h3 : Ls 3 = true := hdc 4 _ rfl h4 ⟨3, .data⟩ (by simp) rfl
          obtain ⟨H, va, vc, x, y, e2, e3, hbox, hC9⟩ := hC.store h3 h4 h6 h8 undef
          have e4 := (he1 8 5 (by omega) rfl (by decide)).trans e2
          have e5 := (he1 6 37 (by omega) rfl (by decide)).trans e3
          obtain ⟨q0, q1, qf⟩ := pair_cells hbox
          have qf0 := qf 0
          have qf1 := qf 1
          exact AnyOrd.gives_skip (by simp [execOp, go_sem, e4, e5, q0, q1, qf0, qf1]) hC9
        · have h7 : Ls 7 = true := haft ⟨7, .data⟩ (by simp) rfl
          have e1 : ev (.tmp 38) = ρ 7 := he1 7 38 (by omega) rfl (by decide)
          exact AnyOrd.gives_value (v := ρ 7) (w' := W) (by simp [execOp, go_sem, e1]) (hC.ten h7)
      · intro Ls ρ W hall hC
        obtain ⟨H, va, vc, e8, e10, hgot, hbw⟩ := hC.done hall
        simp only [AnyOrd.canon, AnyOrd.dst, Array.size, List.length_cons, List.length_nil]
        simp [Act.put, e8, e10]
        clear hall hC e8 e10
        go_wp2
        go_meet
        exact ⟨_, _, _, rfl, rfl, hgot, hbw⟩
    case rest =>
    obtain ⟨H2, va, vc, rfl, rfl, hgp, hb⟩ := hcut
    have HT := Nu.hid (HT.out.later hb)
    clear hb hgp
    go_wp2
    go_ret
    exact ⟨rfl, HT.out.low⟩
  | true =>
    rw [hv] at HVA
    have hval := Si.valid_iff.1 hv
    have hfew := hval.few
    have hlo := hval.lo
    have hhi := hval.hi
    have HVAL := Nu.hid hval
    obtain ⟨m, rfl⟩ : ∃ m : Nat, n = (m : Int) := ⟨n.toNat, by omega⟩
    have hm20 : m ≤ 1048576 := by omega
    rw [Ed.bare_yes hval, Ed.bareL_yes hval] at HBA
    obtain ⟨L, hL⟩ : ∃ L, Ed.bl es m = L := ⟨_, rfl⟩
    have hLm : L.length ≤ m := by rw [← hL]; exact Ed.bl_length es m
    obtain ⟨B, hB⟩ : ∃ B, Ed.named (Ed.pl m L) es = B := ⟨_, rfl⟩
    have HI1 : Hid (Ed.induced (m : Int) es L = ((L.length : Int), B, 0)) := by
      have := Ed.induced_bare hval
      rw [Ed.bare_yes hval, hL, hB] at this
      exact this
    have hBv : Si.Val (L.length : Int) B := by have := Ed.bare_val hval; rwa [hL, hB] at this
    have hBf := hBv.few
    have HB2 : Hid (∀ W a c, EdgesAt W a B → Calls Try.prog 26 #[.agg #[.int .i64 (L.length : Int), .slice a B.length c]] W (BareP ((L.length : Int), B, 0) (Ed.fr 0 L.length) W)) := fun W a c h => by
      have := ebare_any (L.length : Int) a c B W h (by omega)
      have e1 := Ed.bare_bare hval
      have e2 := Ed.bl_bare hval
      rw [Ed.bare_yes hval, hL, hB] at e1
      rw [hL, hB] at e2
      rw [e1, Ed.bareL_yes hBv, e2] at this
      exact this
    rw [hL, hB] at HBA
    clear hv hval hlo hhi hL hB hBv
    go_enter Try.func7, Try.ntmps7
    go_wp2_with (go_at_call 9; refine (fixed14_any _).mono ?_; rintro e w1 ⟨rfl, hb⟩; refine Hid.out ?_)
    refine Nu.hid ?_
    have HT := Nu.hid (HT0.out.later hb)
    clear hb HT0
    obtain ⟨g0, g1, -⟩ := pair_cells HT.out.box
    go_wp2_with (go_at_call 33; refine (HVA.out _ HT.out.low).mono ?_; rintro e w2 ⟨rfl, hb⟩; refine Hid.out ?_)
    refine Nu.hid ?_
    have HT := Nu.hid (HT.out.later hb)
    clear hb g0 g1
    obtain ⟨g0, g1, -⟩ := pair_cells HT.out.box
    go_wp2_with (go_at_call 26; refine (HBA.out _ HT.out.low).mono ?_; rintro e w3 ⟨v, uu, rfl, ho, hoz, -, hb⟩; refine Hid.out ?_)
    refine Nu.hid ?_
    have HT := Nu.hid (HT.out.later hb)
    obtain ⟨pa, pc, rfl, -, -, -, -⟩ := ho.form
    obtain ⟨za, zc, rfl, hzi, -⟩ := hoz.form
    try dsimp only at ho
    try dsimp only
    have HGA := Nu.hid (Got.new (n := (L.length : Int)) ho)
    have HZ := Nu.hid hzi
    clear hb ho hoz hzi g0 g1
    go_upto_region 7 with fail
    have hbz : Below w3.heap.size w3 (w3.alloc (.cells #[.int .i64 (L.length : Int), .slice pa B.length pc] 24)) := (Below.refl _ _).alloc (Nat.le_refl _) _
    have HT := Nu.hid (HT.out.later hbz)
    have HZ := Nu.hid (HZ.out.later hbz)
    clear hbz
    obtain ⟨HA, hHA⟩ : ∃ HA, HA = w3.heap.size := ⟨_, rfl⟩
    rw [← hHA] at HGA ⊢
    generalize w3.alloc (.cells #[.int .i64 (L.length : Int), .slice pa B.length pc] 24) = w4 at HT HGA HZ ⊢
    clear hHA
    obtain ⟨g0, g1, -⟩ := pair_cells HT.out.box
    have HIL := HIN.out w4 L za zc HT.out.low (by omega) HZ.out
    rw [HI1.out] at HIL
    have HIL := Nu.hid HIL
    go_wp2_with (go_at_call 24; refine HIL.out.mono ?_; rintro e w5 ⟨v, rfl, ho, hb⟩; refine Hid.out ?_)
    refine Nu.hid ?_
    have HT := Nu.hid (HT.out.later hb)
    have HGA := Nu.hid (HGA.out.later hb)
    obtain ⟨ia, ic, rfl, -, -, -, -⟩ := ho.form
    try dsimp only at ho
    try dsimp only
    have HGI := Nu.hid (Got.new (n := (L.length : Int)) ho)
    clear hb ho g0 g1 HIL HZ
    go_upto_region 8 with fail
    have hbz : Below w5.heap.size w5 (w5.alloc (.cells #[.int .i64 (L.length : Int), .slice ia B.length ic] 24)) := (Below.refl _ _).alloc (Nat.le_refl _) _
    have HT := Nu.hid (HT.out.later hbz)
    have HGA := Nu.hid (HGA.out.later hbz)
    clear hbz
    obtain ⟨HI, hHI⟩ : ∃ HI, HI = w5.heap.size := ⟨_, rfl⟩
    rw [← hHI] at HGI ⊢
    generalize w5.alloc (.cells #[.int .i64 (L.length : Int), .slice ia B.length ic] 24) = w6 at HT HGA HGI ⊢
    clear hHI
    obtain ⟨a0, a1⟩ := HGA.out.cells
    have hal := HGA.out.lt
    go_wp2_with (go_at_call 26; refine (HB2.out _ _ _ HGA.out.ed).mono ?_; rintro e w7 ⟨v, uu, rfl, ho, hoz, -, hb⟩; refine Hid.out ?_)
    refine Nu.hid ?_
    have HT := Nu.hid (HT.out.later hb)
    have HGA := Nu.hid (HGA.out.later hb)
    have HGI := Nu.hid (HGI.out.later hb)
    obtain ⟨ra, rc, rfl, -, -, -, -⟩ := ho.form
    obtain ⟨za, zc, rfl, hzi, -⟩ := hoz.form
    try dsimp only at ho
    try dsimp only
    have HGR := Nu.hid (Got.new (n := (L.length : Int)) ho)
    have HZ := Nu.hid hzi
    clear hb ho hoz hzi a0 a1 hal
    rw [Ed.fr_length]
    go_upto_region 9 with fail
    have hbz : Below w7.heap.size w7 (w7.alloc (.cells #[.int .i64 (L.length : Int), .slice ra B.length rc] 24)) := (Below.refl _ _).alloc (Nat.le_refl _) _
    have HT := Nu.hid (HT.out.later hbz)
    have HGA := Nu.hid (HGA.out.later hbz)
    have HGI := Nu.hid (HGI.out.later hbz)
    have HZ := Nu.hid (HZ.out.later hbz)
    clear hbz
    obtain ⟨HR, hHR⟩ : ∃ HR, HR = w7.heap.size := ⟨_, rfl⟩
    rw [← hHR] at HGR ⊢
    generalize w7.alloc (.cells #[.int .i64 (L.length : Int), .slice ra B.length rc] 24) = w8 at HT HGA HGI HGR HZ ⊢
    clear hHR
    obtain ⟨a0, a1⟩ := HGA.out.cells
    obtain ⟨i0, i1⟩ := HGI.out.cells
    have hal := HGA.out.lt
    have hil := HGI.out.lt
    have HS := Nu.hid (same_true (L.length : Int) ia pa ic pc B w8 HGI.out.ed HGA.out.ed HGI.out.few)
    go_wp2_with (go_at_call 32; refine HS.out.mono ?_; rintro e w9 ⟨rfl, hb⟩; refine Hid.out ?_)
    refine Nu.hid ?_
    have HT := Nu.hid (HT.out.later hb)
    have HGA := Nu.hid (HGA.out.later hb)
    have HGR := Nu.hid (HGR.out.later hb)
    have HZ := Nu.hid (HZ.out.later hb)
    clear hb a0 a1 i0 i1 hal hil HS HGI
    obtain ⟨a0, a1⟩ := HGA.out.cells
    obtain ⟨i0, i1⟩ := HGR.out.cells
    have hal := HGA.out.lt
    have hil := HGR.out.lt
    have HS := Nu.hid (same_true (L.length : Int) ra pa rc pc B w9 HGR.out.ed HGA.out.ed HGR.out.few)
    go_wp2_with (go_at_call 32; refine HS.out.mono ?_; rintro e w10 ⟨rfl, hb⟩; refine Hid.out ?_)
    refine Nu.hid ?_
    have HT := Nu.hid (HT.out.later hb)
    have HGA := Nu.hid (HGA.out.later hb)
    have HZ := Nu.hid (HZ.out.later hb)
    clear hb a0 a1 i0 i1 hal hil HS HGR
    obtain ⟨a0, a1⟩ := HGA.out.cells
    have hal := HGA.out.lt
    have HF := Nu.hid (from_any 0 L.length w10 (by omega) (by omega))
    go_wp2_with (go_at_call 31; refine HF.out.mono ?_; rintro e w11 ⟨fa, fc, rfl, hoF, hb⟩; refine Hid.out ?_)
    refine Nu.hid ?_
    have HT := Nu.hid (HT.out.later hb)
    have HZ := Nu.hid (HZ.out.later hb)
    have HAL := alike_any za fa zc fc L.length L.length (Ed.fr 0 L.length) (Ed.fr 0 L.length) w11 (Ed.fr_length _ _) (Ed.fr_length _ _) HZ.out (ownz_at hoF) (by omega)
    have hself : decide (Ed.fr 0 L.length = Ed.fr 0 L.length) = true := by simp
    rw [hself] at HAL
    have HAL := Nu.hid HAL
    clear hself hb hoF a0 a1 hal HF HGA
    go_wp2_with (go_at_call 28; refine HAL.out.mono ?_; rintro e w12 ⟨rfl, hb⟩; refine Hid.out ?_)
    refine Nu.hid ?_
    have HT := Nu.hid (HT.out.later hb)
    clear hb HAL HZ
    go_upto_region 11 with fail
    obtain ⟨⟨N2, L2, c2⟩, hr2⟩ : ∃ r, Ed.relabel (m : Int) es l = r := ⟨_, rfl⟩
    have HR2 := Nu.hid hr2
    rw [hr2] at HRE
    clear hr2
    go_cut [15, 16] from 89 to 97 (fun p q wr => ∃ (H : Nat) (va : Option Addr) (vc : Nat), p = .pointer (some ⟨H, 0, none⟩) ∧ q = .int .i64 c2 ∧ Got wr H N2 L2 va vc ∧ Below w12.heap.size w12 wr)
    case first =>
      go_wp2_with fail
      refine wp_region_any (by kernel_rfl) ?_
      have hbd : Below w12.heap.size w12 { w12 with drawn := w12.drawn + 1 } := (Below.refl _ _).drew
      refine AnyOrd.anyV (CpC w12 (.agg #[.int .i64 (m : Int), .slice ao es.length ca]) (.slice lo q lc) q l N2 L2 c2) 208 rfl (by kernel_rfl) (fun ρ => CpC.start hbd) ?_ ?_
      · intro j o' Ls ρ W ev ho hLi hC haft hdc he1 he2 hec hef
        have hc : j = 0 ∨ j = 1 ∨ j = 2 ∨ j = 3 ∨ j = 4 ∨ j = 5 ∨ j = 6 ∨ j = 7 ∨ j = 8 ∨ j = 9 ∨ j = 10 := by
          have : j < 11 := (Array.getElem?_eq_some_iff.1 ho).1
          omega
        have hno : ∀ u, (Ls u = true → Ls j = true) → Ls u = false := fun u h => by
          cases h' : Ls u with
          | false => rfl
          | true =>
            have := h h'
            rw [hLi] at this
            cases this
        obtain ⟨hlow, S0⟩ : Below w12.heap.size w12 W ∧ True := by
          obtain ⟨_, _, _, _, _, _, _, _, S⟩ := hC
          exact ⟨S.low, trivial⟩
        clear S0
        have hT := HT.out.later hlow
        obtain ⟨g0, g1, -⟩ := pair_cells hT.box
        rcases hc with rfl | rfl | rfl | rfl | rfl | rfl | rfl | rfl | rfl | rfl | rfl <;> obtain rfl := Option.some.inj ho
        · have e1 : ev (.tmp 2) = .pointer (some ⟨w.heap.size, 0, none⟩) := he2 2 (by kernel_rfl)
          exact AnyOrd.gives_value (v := (.agg #[.int .i64 (m : Int), .slice ao es.length ca])) (w' := W) (by simp [execOp, go_sem, e1, g0, g1]) hC.load
        · exact AnyOrd.gives_value (v := .slice (some ⟨W.heap.size, 0, none⟩) 0 0) (w' := W.alloc (.cells #[] 3)) (by simp [execOp, go_sem]) hC.new
        · have e1 : ev (.tmp 1) = .slice lo q lc := he2 1 (by kernel_rfl)
          exact AnyOrd.gives_value (v := .slice lo q lc) (w' := W) (by simp [execOp, go_sem, e1]) hC.move
        · have h1 : Ls 1 = true := haft ⟨1, .data⟩ (by simp) rfl
          have h2 : Ls 2 = true := haft ⟨2, .data⟩ (by simp) rfl
          have hC' := hC
          obtain ⟨b, _, _, _, _, _, _, _, S⟩ := hC
          have e1 : ev (.tmp 91) = .slice (some ⟨b, 0, none⟩) 0 0 := (he1 1 91 (by omega) rfl (by decide)).trans (S.v1 h1)
          have e2 : ev (.tmp 92) = .slice lo q lc := (he1 2 92 (by omega) rfl (by decide)).trans (S.v2 h2)
          obtain ⟨g, c, w', hrun, -, hown, -, hbw⟩ := run_copyI 40 W b lo q lc l (S.e1 h1 hLi).2 (HLST.out.later hT.low) hfw
          refine AnyOrd.gives_value (v := .slice (some ⟨g, 0, none⟩) q c) (w' := w') ?_ (hC'.copy hbw (ownz_at (hown _ (Nat.le_refl _))))
          simp [execOp, resolve, invoke, builtin, e1, e2, hrun, Result.andThen]
        · have h0 : Ls 0 = true := haft ⟨0, .data⟩ (by simp) rfl
          have h3 : Ls 3 = true := haft ⟨3, .data⟩ (by simp) rfl
          have hC' := hC
          obtain ⟨b, g, gc, _, _, _, _, _, S⟩ := hC
          have e1 : ev (.tmp 90) = (.agg #[.int .i64 (m : Int), .slice ao es.length ca]) := (he1 0 90 (by omega) rfl (by decide)).trans (S.v0 h0)
          have e2 : ev (.tmp 93) = .slice (some ⟨g, 0, none⟩) q gc := (he1 3 93 (by omega) rfl (by decide)).trans (S.v3 h3)
          have n5 : Ls 5 = false := hno 5 fun h => hdc 5 _ rfl h ⟨4, .data⟩ (by simp) rfl
          have n6 : Ls 6 = false := hno 6 fun h => hdc 5 _ rfl (hdc 6 _ rfl h ⟨5, .data⟩ (by simp) rfl) ⟨4, .data⟩ (by simp) rfl
          have n9 : Ls 9 = false := hno 9 fun h => hdc 9 _ rfl h ⟨4, .chain⟩ (by simp) rfl
          refine gives_enter (f := 22) (args := #[(.agg #[.int .i64 (m : Int), .slice ao es.length ca]), .slice (some ⟨g, 0, none⟩) q gc]) (by simp [execOp, go_sem, e1, e2, hef]) ?_
          refine (HRE.out W (some ⟨g, 0, none⟩) gc hT.low (S.e3 h3 hLi)).mono ?_
          rintro e w' ⟨v, rfl, hov, hbw⟩
          try dsimp only at hov
          obtain ⟨va, vc, rfl, -, -, -, -⟩ := hov.form
          exact ⟨_, rfl, hC'.call hbw hov n5 n6 n9⟩
        · have h4 : Ls 4 = true := haft ⟨4, .data⟩ (by simp) rfl
          have e1 : ev (.tmp 94) = ρ 4 := he1 4 94 (by omega) rfl (by decide)
          exact AnyOrd.gives_value (v := ρ 4) (w' := W) (by simp [execOp, go_sem, e1]) (hC.five h4)
        · have h5 : Ls 5 = true := haft ⟨5, .data⟩ (by simp) rfl
          obtain ⟨va, vc, e2, hC6⟩ := hC.six h5
          have e1 := (he1 5 89 (by omega) rfl (by decide)).trans e2
          exact AnyOrd.gives_value (v := .agg #[.int .i64 N2, .slice va L2.length vc]) (w' := W) (by simp [execOp, go_sem, e1]) hC6
        · have h5 : Ls 5 = true := haft ⟨5, .data⟩ (by simp) rfl
          obtain ⟨va, vc, e2, hC7⟩ := hC.seven h5
          have e1 := (he1 5 89 (by omega) rfl (by decide)).trans e2
          exact AnyOrd.gives_value (v := .int .i64 c2) (w' := W) (by simp [execOp, go_sem, e1]) hC7
        · have n9 : Ls 9 = false := hno 9 fun h => hdc 9 _ rfl h ⟨8, .data⟩ (by simp) rfl
          exact AnyOrd.gives_value (v := .pointer (some ⟨W.heap.size, 0, none⟩)) (w' := W.alloc (.cells #[.int .i64 0, .slice none 0 0] 24)) (by simp [execOp, go_sem]) (hC.box n9 _ _)
        · have h8 : Ls 8 = true := haft ⟨8, .data⟩ (by simp) rfl
          have h6 : Ls 6 = true := haft ⟨6, .data⟩ (by simp) rfl
          have h4 : Ls 4 = true := haft ⟨4, .chain⟩ (by simp) rfl
          have h3 : Ls 3 = true := hdc 4 _ rfl h4 ⟨3, .data⟩ (by simp) rfl
          obtain ⟨H, va, vc, x, y, e2, e3, hbox, hC9⟩ := hC.store h3 h4 h6 h8 undef
          have e4 := (he1 8 15 (by omega) rfl (by decide)).trans e2
          have e5 := (he1 6 95 (by omega) rfl (by decide)).trans e3
          obtain ⟨q0, q1, qf⟩ := pair_cells hbox
          have qf0 := qf 0
          have qf1 := qf 1
          exact AnyOrd.gives_skip (by simp [execOp, go_sem, e4, e5, q0, q1, qf0, qf1]) hC9
        · have h7 : Ls 7 = true := haft ⟨7, .data⟩ (by simp) rfl
          have e1 : ev (.tmp 96) = ρ 7 := he1 7 96 (by omega) rfl (by decide)
          exact AnyOrd.gives_value (v := ρ 7) (w' := W) (by simp [execOp, go_sem, e1]) (hC.ten h7)
      · intro Ls ρ W hall hC
        obtain ⟨H, va, vc, e8, e10, hgot, hbw⟩ := hC.done hall
        simp only [AnyOrd.canon, AnyOrd.dst, Array.size, List.length_cons, List.length_nil]
        simp [Act.put, e8, e10]
        clear hall hC e8 e10
        go_wp2
        go_meet
        exact ⟨_, _, _, rfl, rfl, hgot, hbw⟩
    case rest =>
    obtain ⟨H2, va, vc, rfl, rfl, hgp, hb⟩ := hcut
    have HT := Nu.hid (HT.out.later hb)
    have HGP := Nu.hid hgp
    clear hb hgp
    obtain ⟨i0, hi, hz0, hz1, hz2⟩ := info_parts Try.infoNum
    obtain ⟨g0, g1, -⟩ := pair_cells HT.out.box
    have hlen := HLST.out.len
    go_wp2_with (at_make; refine wpList_make_full _ rfl _ _ 40 rfl wc.heap.size 3 i0 (.int .i64 0) 1 Try.underlying40 hi hz0 hz1 _ _ _ _ m rfl rfl rfl rfl (by rw [hz2]; omega) (by unfold maxLen; omega) (Nat.le_refl _) ?_; refine Hid.out ?_)
    refine Nu.hid ?_
    intro w14 hrow1 hg1
    have HROW1 : Hid (IntsBlk w14 wc.heap.size (List.replicate m 0)) := by
      refine ints_of_row (B := wc.heap.size) (n := m) ?_
      rw [← made_zeros]
      simpa using hrow1
    have HB1 : Hid (Below wc.heap.size wc w14) := (Below.refl _ _).grown hg1 (Nat.le_refl _) (fun j hj => by cases hj)
    clear hrow1 hg1 g0 g1
    by_cases hqm : q = m
    · subst hqm
      go_wp2
      go_loopw [18, 102] (fun v c wr => ∃ (k : Nat) (L : List Int) (t : Nat), k ≤ q ∧ c = .int .i64 k ∧ v = .int .i64 (t : Int) ∧ (L, t) = Ed.bk q l k ∧ IntsBlk wr wc.heap.size L ∧ Below wc.heap.size wc wr) (fun _ c _ => q - (intOf c).toNat)
      case atStart => exact ⟨0, _, 0, Nat.zero_le _, rfl, rfl, rfl, HROW1.out, HB1.out⟩
      case round =>
        obtain ⟨k, L, t, hk, rfl, rfl, hL, hrow, hb⟩ := hrel
        have HROW := Nu.hid hrow
        have HB := Nu.hid hb
        have HL := Nu.hid hL
        have hs0 := hrow.lt
        have htk : t ≤ k := by
          have := Ed.bk_le q l k
          rw [← hL] at this
          exact this
        have hwk : IntKind.i64.wrap ((k : Int) + 1) = (k : Int) + 1 := by rw [IntKind.wrap_i64]; omega
        have hwt : IntKind.i64.wrap ((t : Int) + 1) = (t : Int) + 1 := by rw [IntKind.wrap_i64]; omega
        have hLl : L.length = q := by
          have := Ed.bk_length q l k
          rw [← hL] at this
          exact this
        have hLb : ∀ x ∈ L, 0 ≤ x ∧ x ≤ (k : Int) := by
          have := Ed.bk_bound q l k
          rw [← hL] at this
          exact this
        have HLB := Nu.hid hLb
        clear hLb
        have hT := HT.out.later hb
        obtain ⟨g0, g1, -⟩ := pair_cells hT.box
        by_cases hlt : k < q
        · have hlti : (k : Int) < (q : Int) := by omega
          have hk0 : (0 : Int) ≤ (k : Int) := by omega
          obtain ⟨x, hx⟩ : ∃ x, l[k]? = some x := ⟨_, List.getElem?_eq_getElem (by omega)⟩
          obtain ⟨b, o, rfl, c0⟩ := (HLST.out.ints.later hT.low) k x hx
          have hbl : b < wr.heap.size := block_lt_of_cell c0
          have HX := Nu.hid hx
          clear hx hT hb
          by_cases hxn : x < 0
          · have hx0 : ¬ (0 ≤ x) := by omega
            have HE : Hid (Ed.bk q l (k + 1) = Ed.bk q l k) := Ed.bk_no HX.out (fun h => by omega)
            clear hrow hL
            go_wp2
            go_roundw
            case rel => exact ⟨k + 1, L, t, by omega, by go_num, rfl, by rw [HE.out]; exact HL.out, HROW.out, HB.out⟩
            case measure => simp [intOf]; omega
          · obtain ⟨xv, rfl⟩ : ∃ v : Nat, x = (v : Int) := ⟨x.toNat, by omega⟩
            have hx0 : (0 : Int) ≤ (xv : Int) := by omega
            by_cases hxm : (xv : Int) < (q : Int)
            · obtain ⟨y, hy⟩ : ∃ y, L[xv]? = some y := ⟨_, List.getElem?_eq_getElem (by omega)⟩
              have y0 := hrow.cell hy
              have yb := HLB.out y (List.mem_of_getElem? hy)
              have HY := Nu.hid hy
              by_cases hyz : y = 0
              · subst hyz
                have f0 := hrow.free xv
                have HA2 := Nu.hid (hrow.set xv ((k : Int) + 1))
                have HE : Hid (Ed.bk q l (k + 1) = (L.set xv ((k : Int) + 1), t + 1)) := by
                  have := Ed.bk_yes (n := (xv : Int)) hlen HX.out hx0 hxm (by rw [← hL, Int.toNat_natCast]; exact hy)
                  rw [← hL, Int.toNat_natCast] at this
                  exact this
                clear hrow hL hy yb
                go_wp2
                go_roundw
                case rel => exact ⟨k + 1, _, t + 1, by omega, by go_num, by go_num, by rw [HE.out], HA2.out, HB.out.setCell (by simp) _⟩
                case measure => simp [intOf]; omega
              · have hne : (y == 0) = false := by simp [hyz]
                have HE : Hid (Ed.bk q l (k + 1) = Ed.bk q l k) := Ed.bk_met HX.out (by rw [← hL, Int.toNat_natCast]; exact hy) hyz
                clear hrow hL hy yb hyz
                go_wp2
                go_roundw
                case rel => exact ⟨k + 1, L, t, by omega, by go_num, rfl, by rw [HE.out]; exact HL.out, HROW.out, HB.out⟩
                case measure => simp [intOf]; omega
            · have HE : Hid (Ed.bk q l (k + 1) = Ed.bk q l k) := Ed.bk_no HX.out (fun h => by omega)
              clear hrow hL
              go_wp2
              go_roundw
              case rel => exact ⟨k + 1, L, t, by omega, by go_num, rfl, by rw [HE.out]; exact HL.out, HROW.out, HB.out⟩
              case measure => simp [intOf]; omega
        · have hd : ¬ ((k : Int) < (q : Int)) := by omega
          obtain rfl : k = q := by omega
          have HGW := Nu.hid (HGP.out.later hb)
          obtain ⟨p0, p1⟩ := HGW.out.cells
          have hpl := HGW.out.lt
          by_cases htm : t = k
          · subst htm
            have hbk : Ed.Perm t l ∧ L = (Ed.pl t l).map (· + 1) := by
              have h1 := Ed.bk_all (m := t) hlen (by rw [hlen, ← hL])
              rw [hlen, ← hL] at h1
              exact h1
            obtain ⟨hperm, hLp⟩ := hbk
            have hr := HR2.out
            rw [Ed.relabel_yes HVAL.out hperm] at hr
            obtain ⟨rfl, rfl, rfl⟩ : N2 = (t : Int) ∧ L2 = Ed.named l es ∧ c2 = 0 := by
              have := Prod.mk.inj hr
              have h2 := Prod.mk.inj this.2
              exact ⟨this.1.symm, h2.1.symm, h2.2.symm⟩
            obtain ⟨L2, hL2⟩ : ∃ L2, L2 = Ed.named l es := ⟨_, rfl⟩
            have HI2 : Hid (Ed.induced (t : Int) es (Ed.pl t l) = ((t : Int), L2, 0)) := by
              show _ = _
              rw [Ed.induced_pl HVAL.out hperm, Ed.relabel_yes HVAL.out hperm, hL2]
            have HRB : Hid (Ed.relabel (t : Int) L2 (Ed.pl t l) = ((t : Int), es, 0)) := by
              show _ = _
              rw [hL2, Ed.relabel_yes (Ed.relabel_val HVAL.out hperm) (Ed.perm_pl hperm), Ed.relabel_back HVAL.out hperm]
            have hln : L2.length = es.length := by rw [hL2]; exact Ed.relabel_len HVAL.out hperm
            have hlne : ((L2.length : Int) == (es.length : Int)) = true := by simp [hln]
            obtain ⟨pp, hpp⟩ : ∃ pp, pp = Ed.pl t l := ⟨_, rfl⟩
            have hpq : pp.length = t := by rw [hpp, Ed.pl_length]
            rw [← hL2] at HGP HGW p1
            rw [← hpp] at HI2 HRB hLp
            have HBB := Nu.hid hb
            have HROW2 : Hid (IntsBlk wr wc.heap.size (pp.take 0 ++ (pp.map (· + 1)).drop 0)) := by
              have : pp.take 0 ++ (pp.map (· + 1)).drop 0 = L := by rw [hLp]; simp
              rw [this]
              exact HROW.out
            have HLN := Nu.hid hln
            have HPB : Hid (∀ z ∈ pp, 0 ≤ z ∧ z < (t : Int)) := by
              rw [hpp]
              exact (Ed.perm_pl hperm).1.1
            clear hrow hL hb hT hr hperm hLp hL2 hpp hln
            go_wp2
            go_loopw [157] (fun c wt => ∃ (u : Nat), u ≤ t ∧ c = .int .i64 u ∧ IntsBlk wt wc.heap.size (pp.take u ++ (pp.map (· + 1)).drop u) ∧ Below wc.heap.size wc wt) (fun c _ => t - (intOf c).toNat)
            case atStart => exact ⟨0, Nat.zero_le _, rfl, HROW2.out, HBB.out⟩
            case round =>
              obtain ⟨u, hu, rfl, hrow, hb⟩ := hrel
              have HROW := Nu.hid hrow
              have HB := Nu.hid hb
              have hs0 := hrow.lt
              have hwu : IntKind.i64.wrap ((u : Int) + 1) = (u : Int) + 1 := by rw [IntKind.wrap_i64]; omega
              by_cases hlt : u < t
              · have hlti : (u : Int) < (t : Int) := by omega
                have hu0 : (0 : Int) ≤ (u : Int) := by omega
                obtain ⟨x, hx⟩ : ∃ x, (pp.map (· + 1))[u]? = some x := ⟨_, List.getElem?_eq_getElem (by simp; omega)⟩
                have hx2 : (pp.take u ++ (pp.map (· + 1)).drop u)[u]? = some x := by
                  rw [List.getElem?_append_right (by simp; omega), List.getElem?_drop, List.length_take, show u + (u - min u pp.length) = u by omega]
                  exact hx
                have hxb : 1 ≤ x ∧ x ≤ (t : Int) := by
                  rw [List.getElem?_map] at hx
                  obtain ⟨z, hz, rfl⟩ := Option.map_eq_some_iff.1 hx
                  have := HPB.out z (List.mem_of_getElem? hz)
                  omega
                have x0 := hrow.cell hx2
                have f0 := hrow.free u
                have HA2 := Nu.hid (hrow.set u (x - 1))
                have HLO := Nu.hid (Ed.less_one pp hx)
                have hwx : IntKind.i64.wrap (x - 1) = x - 1 := by rw [IntKind.wrap_i64]; omega
                clear hrow hb hx hx2 hxb
                go_wp2
                go_roundw
                case rel => exact ⟨u + 1, by omega, by go_num, by rw [← HLO.out]; exact HA2.out, HB.out.setCell (by simp) _⟩
                case measure => simp [intOf]; omega
              · have hd2 : ¬ ((u : Int) < (t : Int)) := by omega
                have hfin : pp.take u ++ (pp.map (· + 1)).drop u = pp := by rw [List.take_of_length_le (by omega), List.drop_of_length_le (by simp; omega), List.append_nil]
                rw [hfin] at hrow
                have HIP := Nu.hid hrow.at
                have HTW := Nu.hid (HT.out.later hb)
                have HGX := Nu.hid (HGP.out.later hb)
                have hR := erelabel_any (t : Int) (some ⟨wc.heap.size, 0, none⟩) t t pp va vc L2 wr HGX.out.ed (by rw [HLN.out]; omega) hpq hrow.at (by omega)
                rw [HRB.out] at hR
                unfold graphVal at hR
                have HRR := Nu.hid hR
                clear hfin hrow hb hR p0 p1 hpl g0 g1
                obtain ⟨p0, p1⟩ := HGX.out.cells
                have hpl := HGX.out.lt
                go_wp2_with (go_at_call 22; refine HRR.out.mono ?_; rintro e w20 ⟨v, rfl, ho, hb⟩; refine Hid.out ?_)
                refine Nu.hid ?_
                have HTW := Nu.hid (HTW.out.later hb)
                have HGX := Nu.hid (HGX.out.later hb)
                have HIP := Nu.hid (HIP.out.later hb)
                obtain ⟨ba, bc, rfl, -, -, -, -⟩ := ho.form
                try dsimp only at ho
                try dsimp only
                have HGB := Nu.hid (Got.new (n := (t : Int)) ho)
                clear hb ho p0 p1 hpl HRR
                go_upto_region 29 with fail
                have hbz : Below w20.heap.size w20 (w20.alloc (.cells #[.int .i64 (t : Int), .slice ba es.length bc] 24)) := (Below.refl _ _).alloc (Nat.le_refl _) _
                have HTW := Nu.hid (HTW.out.later hbz)
                have HGX := Nu.hid (HGX.out.later hbz)
                have HIP := Nu.hid (HIP.out.later hbz)
                clear hbz
                obtain ⟨HB2, hHB2⟩ : ∃ HB2, HB2 = w20.heap.size := ⟨_, rfl⟩
                rw [← hHB2] at HGB ⊢
                generalize w20.alloc (.cells #[.int .i64 (t : Int), .slice ba es.length bc] 24) = w21 at HTW HGX HIP HGB ⊢
                clear hHB2
                obtain ⟨g0, g1, -⟩ := pair_cells HTW.out.box
                have HIL := HIN.out w21 pp (some ⟨wc.heap.size, 0, none⟩) t HTW.out.low (by omega) HIP.out
                rw [HI2.out, hpq] at HIL
                have HIL := Nu.hid HIL
                go_wp2_with (go_at_call 24; refine HIL.out.mono ?_; rintro e w22 ⟨v, rfl, ho, hb⟩; refine Hid.out ?_)
                refine Nu.hid ?_
                have HTW := Nu.hid (HTW.out.later hb)
                have HGX := Nu.hid (HGX.out.later hb)
                have HGB := Nu.hid (HGB.out.later hb)
                obtain ⟨xa, xc, rfl, -, -, -, -⟩ := ho.form
                try dsimp only at ho
                try dsimp only
                have HGC := Nu.hid (Got.new (n := (t : Int)) ho)
                clear hb ho g0 g1 HIL
                go_upto_region 30 with fail
                have hbz : Below w22.heap.size w22 (w22.alloc (.cells #[.int .i64 (t : Int), .slice xa L2.length xc] 24)) := (Below.refl _ _).alloc (Nat.le_refl _) _
                have HTW := Nu.hid (HTW.out.later hbz)
                have HGX := Nu.hid (HGX.out.later hbz)
                have HGB := Nu.hid (HGB.out.later hbz)
                clear hbz
                obtain ⟨HC2, hHC2⟩ : ∃ HC2, HC2 = w22.heap.size := ⟨_, rfl⟩
                rw [← hHC2] at HGC ⊢
                generalize w22.alloc (.cells #[.int .i64 (t : Int), .slice xa L2.length xc] 24) = w23 at HTW HGX HGB HGC ⊢
                clear hHC2
                obtain ⟨g0, g1, -⟩ := pair_cells HTW.out.box
                obtain ⟨p0, p1⟩ := HGX.out.cells
                obtain ⟨b0, b1⟩ := HGB.out.cells
                have hsg := lt_of_block HTW.out.box
                have hpl := HGX.out.lt
                have hbl2 := HGB.out.lt
                have HS := Nu.hid (same_true (t : Int) ba ao bc ca es w23 HGB.out.ed (HAT.out.later HTW.out.low) HGB.out.few)
                go_wp2_with (go_at_call 32; refine HS.out.mono ?_; rintro e w24 ⟨rfl, hb⟩; refine Hid.out ?_)
                refine Nu.hid ?_
                have HTW := Nu.hid (HTW.out.later hb)
                have HGX := Nu.hid (HGX.out.later hb)
                have HGC := Nu.hid (HGC.out.later hb)
                clear hb g0 g1 p0 p1 b0 b1 hsg hpl hbl2 HS HGB
                obtain ⟨p0, p1⟩ := HGX.out.cells
                obtain ⟨b0, b1⟩ := HGC.out.cells
                have hpl := HGX.out.lt
                have hbl2 := HGC.out.lt
                have HS := Nu.hid (same_true (t : Int) xa va xc vc L2 w24 HGC.out.ed HGX.out.ed HGC.out.few)
                go_wp2_with (go_at_call 32; refine HS.out.mono ?_; rintro e w25 ⟨rfl, hb⟩; refine Hid.out ?_)
                refine Nu.hid ?_
                have HTW := Nu.hid (HTW.out.later hb)
                clear hb p0 p1 b0 b1 hpl hbl2 HS HGX HGC
                go_wp2
                go_ret
                exact ⟨rfl, HTW.out.low⟩
          · have hno := Ed.bk_few (m := k) (l := l) (fun h => htm (by have := h.2; rw [hlen, ← hL] at this; exact this))
            have hr := HR2.out
            rw [Ed.relabel_no HVAL.out hno] at hr
            obtain ⟨rfl, rfl, rfl⟩ : N2 = 0 ∧ L2 = [] ∧ c2 = 2 := by
              have := Prod.mk.inj hr
              have h2 := Prod.mk.inj this.2
              exact ⟨this.1.symm, h2.1.symm, h2.2.symm⟩
            have hne : ((t : Int) != (k : Int)) = true := by simp; omega
            have HTT := Nu.hid hT
            clear hrow hL hb hT hr hno htm
            go_wp2
            go_ret
            exact ⟨rfl, HTT.out.low⟩
    · have hne : ((q : Int) != (m : Int)) = true := by simp; omega
      have hne2 : ((q : Int) == (m : Int)) = false := by simp; omega
      have hr := HR2.out
      rw [Ed.relabel_no HVAL.out (fun h => hqm (by have := h.2; omega))] at hr
      obtain ⟨rfl, rfl, rfl⟩ : N2 = 0 ∧ L2 = [] ∧ c2 = 2 := by
        have := Prod.mk.inj hr
        have h2 := Prod.mk.inj this.2
        exact ⟨this.1.symm, h2.1.symm, h2.2.symm⟩
      clear hr hqm
      go_wp2
      go_loopw [102] (fun c wr => ∃ (k : Nat), k ≤ q ∧ c = .int .i64 k ∧ wr = w14) (fun c _ => q - (intOf c).toNat)
      case atStart => exact ⟨0, Nat.zero_le _, rfl, rfl⟩
      case round =>
        obtain ⟨k, hk, rfl, hwr⟩ := hrel
        obtain rfl := hwr.symm
        clear hwr
        have hwk : IntKind.i64.wrap ((k : Int) + 1) = (k : Int) + 1 := by rw [IntKind.wrap_i64]; omega
        have hT := HT.out.later HB1.out
        obtain ⟨g0, g1, -⟩ := pair_cells hT.box
        by_cases hlt : k < q
        · have hlti : (k : Int) < (q : Int) := by omega
          have hk0 : (0 : Int) ≤ (k : Int) := by omega
          obtain ⟨x, hx⟩ : ∃ x, l[k]? = some x := ⟨_, List.getElem?_eq_getElem (by omega)⟩
          obtain ⟨b, o, rfl, c0⟩ := (HLST.out.ints.later hT.low) k x hx
          have hbl : b < w14.heap.size := block_lt_of_cell c0
          clear hx hT
          go_wp2
          go_roundw
          case rel => exact ⟨k + 1, by omega, by go_num, by first | rfl | trivial⟩
          case measure => simp [intOf]; omega
        · have hd : ¬ ((k : Int) < (q : Int)) := by omega
          obtain ⟨p0, p1⟩ := (HGP.out.later HB1.out).cells
          have hpl := (HGP.out.later HB1.out).lt
          have HTT := Nu.hid hT
          clear hT
          go_wp2
          go_ret
          exact ⟨rfl, HTT.out.low⟩

set_option maxRecDepth 100000 in
/-- What the walk gives, for every argument and every world. -/
theorem contract (H : Type) (enc : TypeId × Value → H) (W : World) (base : Nat) (args : Array Value) (ds gs : List (DataW H)) (before : List MemPlace)
    (hval : ∀ (j : Nat) t v, Try.f7.params[j]? = some t → args[j]? = some v → Value.okWide Try.prog W .any base t v)
    (hW : DataW.Whole enc Try.prog Try.f7.params.toList Rows.editNamedSpec.vars false W args.toList ds gs before)
    (hsz : (DataW.weightsEach Try.prog (Try.f7.params.toList ++ (OpenSpec.ofChange Rows.editNamedSpec).bare.plain.varTypes Try.prog) (ds ++ gs)).all (· ≤ reachBytes) = true)
    :
    Calls Try.prog 7 args W fun e W' => ∃ v, e = .returned v ∧ Rows.editNamedSpec.post enc Try.prog Try.f7 false true false false W args v W' := by
  have hW' := hW
  obtain ⟨p, q, hA0, hV, rfl, hfz, hnd⟩ := hW
  have hA : DataW.TrodAll enc Try.prog W 0 (fun _ => true) true Try.f7.params.toList args.toList ds p := hA0
  rw [Try.params7] at hA hval hsz
  obtain ⟨v0, vs0, d0, ds0, p0, q0, hargs, rfl, rfl, h0, r0⟩ := trodAll_cons hA
  obtain ⟨v1, vs1, d1, ds1, p1, q1, rfl, rfl, rfl, h1, r1⟩ := trodAll_cons r0
  obtain ⟨rfl, rfl, rfl⟩ := trodAll_nil r1
  obtain rfl : args = #[v0, v1] := by cases args; simp_all
  obtain ⟨rfl, rfl⟩ := trodVars_none hV
  have k0 := h0
  have lt0 : ∀ x ∈ p0, x.block < W.heap.size := by obtain ⟨m, hm⟩ := k0; exact DataW.trod_lt m _ _ _ hm
  obtain ⟨n0, a0, cap0, q0, rfl, x0, w0, u0⟩ := graph_of_trod (j := 0) (hval 0 24 v0 rfl rfl) h0 hsz rfl rfl
  obtain ⟨a1, len1, cap1, rfl⟩ := okWide_slice Try.underlying40 (hval 1 40 v1 rfl rfl)
  have k1 := h1
  have lt1 : ∀ x ∈ p1, x.block < W.heap.size := by obtain ⟨m, hm⟩ := k1; exact DataW.trod_lt m _ _ _ hm
  obtain ⟨z1, w1⟩ := IsRow.of_trod (j := 1) Try.underlying40 Try.underlying3 cellsInt bytesInt h1 hsz rfl rfl
  clear hA0
  refine (walk n0 a0 cap0 q0 a1 len1 cap1 z1 W x0 w0 u0 w1).mono fun e W' ⟨he, bel⟩ => ?_
  subst he
  exact ⟨_, rfl, _, _, _, [], _, [], hW', trodAll_mk1 (shut_bool Try.underlying4 _), (trodAll_cons_mk (Below.trod laidOut (by kernel_rfl) (of_decide_eq_true (by kernel_rfl)) k0 bel lt0) (trodAll_cons_mk (Below.trod laidOut (by kernel_rfl) (of_decide_eq_true (by kernel_rfl)) k1 bel lt1) trodAll_mk0)), rfl, bel.frame _, fun h => by cases h⟩

theorem laid_met (os : Os) : laidMet Try.prog Rows.editNamedRow.laid ((settled os).forCall (fun _ _ => 0) ⟨#[], #[.agg #[.int .i64 0, .slice none 0 0], .slice none 0 0], []⟩).memory :=
  laidMet_of_run' 100 (by kernel_rfl) (by kernel_rfl)
theorem reads (os : Os) {H : Type} (enc : TypeId × Value → H) : ∃ places, DataW.whole enc Try.prog ((settled os).forCall (fun _ _ => 0) ⟨#[], #[.agg #[.int .i64 0, .slice none 0 0], .slice none 0 0], []⟩).memory Try.f7.params.toList Rows.editNamedSpec.vars false (#[.agg #[.int .i64 0, .slice none 0 0], .slice none 0 0] : Array Value).toList 8 = some ([.agg [.lit (.int .i64 0), .nil], .nil], [], places) :=
  ⟨[], by kernel_rfl⟩

set_option maxRecDepth 100000 in
theorem lifted (os : Os) (started : os.Started) (H : Type) (enc : TypeId × Value → H) (F : Stop.Interp) :
    ReturnsInHanded {} Try.checked os 7 .any ((OpenSpec.ofChange Rows.editNamedSpec).preRow enc Try.prog Try.f7 Rows.editNamedRow.domain false Rows.editNamedRow.laid) (((OpenSpec.ofChange Rows.editNamedSpec).at F).post enc Try.prog Try.f7 false true false false) := by
  obtain ⟨places, hx⟩ := reads os enc
  refine returnsInHanded_of_row (C := Try.checked) (s := (OpenSpec.ofChange Rows.editNamedSpec)) own started (by kernel_rfl) Try.func7
    (witness_row_at (enc := enc) (C := Try.checked) false (settled os) #[.agg #[.int .i64 0, .slice none 0 0], .slice none 0 0] rfl (by kernel_rfl) (by kernel_rfl) (by kernel_rfl)
      (OpenSpec.preRow_of_cond 8 hx (by kernel_rfl) (fun k hk => by cases hk) (by kernel_rfl) (laid_met os))) ?_
  intro W base args ds gs before hval hW _ _ hsz _ _ _
  exact contract H enc W base args ds gs before hval hW hsz 

theorem said : Rows.EditNamedSaid :=
  OpenClaim.holds_of_cond 7 Try.f7 rfl rfl rfl rfl rfl rfl rfl ⟨rfl, rfl, rfl, rfl, rfl⟩ rfl rfl rfl rfl rfl (by kernel_rfl) Try.func7 (by kernel_rfl)
    (of_decide_eq_true (by kernel_rfl)) (by unfold Func.isWrapper; first | (rw [if_pos (by decide +kernel)]; kernel_rfl) | (rw [if_neg (by decide +kernel)]; exact ⟨rfl, rfl⟩))
    (fun os started H enc _ F => by rw [OpenClaim.pre_eq_preRow]; exact lifted os started H enc F)

end lawEN

theorem editNamed_holds : Rows.EditNamedSaid := lawEN.said

#print axioms editNamed_holds
end Go.Proofs.Ytdkckdbpbdhoaaa
