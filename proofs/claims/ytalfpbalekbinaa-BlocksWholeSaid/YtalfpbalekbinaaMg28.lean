import Derived.Test.YtalfpbalekbinaaMg25
import Derived.Test.YtalfpbalekbinaaMg27
import Derived.Test.YtalfpbalekbinaaMg02
import Derived.Test.YtalfpbalekbinaaMg01
/-
  The document's Classes: by edge, the least edge of its block.
-/
namespace Go.Proofs.Ytalfpbalekbinaa
open Go.RowKit Go.Sort

def ClassPost (n : Nat) (es : List (Int × Int)) (w : World) (e : Ending) (w' : World) : Prop :=
  ∃ (m : Nat → Nat) (g : Nat), e = .returned (.slice (some ⟨g, 0, none⟩) es.length es.length) ∧ w.heap.size ≤ g ∧ IntsBlk w' g (Bl.nums es.length m) ∧ Bl.ClE n es m (fun _ _ _ => True) ∧ Below w.heap.size w w'

/-- What stays: the classes in their block, the graph's box. -/
structure ClAt (w : World) (n : Nat) (ao : Option Addr) (cap : Nat) (es : List (Int × Int)) (m : Nat → Nat) (wr : World) : Prop where
  cls : IntsBlk wr (w.heap.size + 1) (Bl.nums es.length m)
  box : wr.heap[w.heap.size]? = some (.cells #[.int .i64 n, .slice ao es.length cap] 24 (0, 0))
  low : Below w.heap.size w wr
theorem ClAt.later {w : World} {n : Nat} {ao : Option Addr} {cap : Nat} {es : List (Int × Int)} {m : Nat → Nat} {wr wr' : World} (h : ClAt w n ao cap es m wr) (hb : Below wr.heap.size wr wr') : ClAt w n ao cap es m wr' :=
  ⟨h.cls.later hb, (hb.block _ (lt_of_block h.box)).trans h.box, h.low.trans (hb.mono h.low.size)⟩
theorem ClAt.drewN {w : World} {n : Nat} {ao : Option Addr} {cap : Nat} {es : List (Int × Int)} {m : Nat → Nat} {wr : World} (h : ClAt w n ao cap es m wr) (k : Nat) : ClAt w n ao cap es m (wr.drewN k) := ⟨h.cls, h.box, below_drewN h.low k⟩
theorem ClAt.put {w : World} {n : Nat} {ao : Option Addr} {cap : Nat} {es : List (Int × Int)} {m m' : Nat → Nat} {wr wr' : World} (h : ClAt w n ao cap es m wr) (hc : IntsBlk wr' (w.heap.size + 1) (Bl.nums es.length m')) (hw : Wrote (fun k => k = w.heap.size + 1) wr wr') : ClAt w n ao cap es m' wr' :=
  ⟨hc, (hw.block _ (lt_of_block h.box) (by omega)).trans h.box, h.low.trans (hw.below h.low.size (fun k hk => by omega))⟩

theorem at9_yes {a b v : Int} (h : a = v ∨ b = v) (w : World) : Calls Try.prog 34 #[.agg #[.int .i64 a, .int .i64 b], .int .i64 v] w fun e w' => e = .returned (.bool true) ∧ Below w.heap.size w w' := by
  have := at9_any a b v w
  rw [decide_eq_true h] at this
  exact this
theorem at9_no {a b v : Int} (h : ¬ (a = v ∨ b = v)) (w : World) : Calls Try.prog 34 #[.agg #[.int .i64 a, .int .i64 b], .int .i64 v] w fun e w' => e = .returned (.bool false) ∧ Below w.heap.size w w' := by
  have := at9_any a b v w
  rw [decide_eq_false h] at this
  exact this
theorem oth9_is {a b v A : Int} (h : Bl.othE (a, b) v = A) (w : World) : Calls Try.prog 50 #[.agg #[.int .i64 a, .int .i64 b], .int .i64 v] w fun e w' => e = .returned (.int .i64 A) ∧ Below w.heap.size w w' := by
  rw [← h]
  exact other9_any a b v w
theorem EdgesAt.two {w : World} {b o : Nat} {es : List (Int × Int)} (h : EdgesAt w (some ⟨b, o, none⟩) es) {i : Nat} {x y : Int} (hq : es[i]? = some (x, y)) : w.cell? ⟨b, o + i * 2, none⟩ = some (.int .i64 x) ∧ w.cell? ⟨b, o + i * 2 + 1, none⟩ = some (.int .i64 y) := by
  obtain ⟨b', o', e', c0, c1⟩ := h i _ hq
  cases e'
  exact ⟨c0, c1⟩

set_option maxRecDepth 100000 in
set_option maxHeartbeats 16000000 in
theorem classes_any (n : Nat) (ao : Option Addr) (cap : Nat) (es : List (Int × Int)) (w : World) (he : EdgesAt w ao es) (hval : Si.Val n es) :
    Calls Try.prog 28 #[graphVal n ao es.length cap] w (ClassPost n es w) := by
  obtain ⟨i0, hi, hz0, hz1, hz2⟩ := info_parts Try.infoNum
  have HE := Nu.hid he
  have hfew := hval.few
  have hhi := hval.hi
  have HVAL := Nu.hid hval
  have HDEG := Nu.hid (fun (v : Int) W (hb : Below w.heap.size w W) => rdegree_any (n : Int) ao cap es v W (he.later hb) hfew)
  have HPRT := Nu.hid (fun (v : Int) W (hb : Below w.heap.size w W) h1 h2 => parts_any n ao cap es v W (he.later hb) hval h1 h2)
  unfold graphVal at HDEG HPRT ⊢
  clear he hval
  have hbw0 : Below w.heap.size w (w.alloc (.cells #[.int .i64 n, .slice ao es.length cap] 24)) := (Below.refl _ _).alloc (Nat.le_refl _) _
  have hG : (w.alloc (.cells #[.int .i64 n, .slice ao es.length cap] 24)).heap[w.heap.size]? = some (.cells #[.int .i64 n, .slice ao es.length cap] 24 (0, 0)) := heap_alloc_new w _
  have hsz : (w.alloc (.cells #[.int .i64 n, .slice ao es.length cap] 24)).heap.size = w.heap.size + 1 := by simp
  obtain ⟨x0, x1, -⟩ := pair_cells hG
  obtain ⟨w1, hw1⟩ : ∃ w1, w1 = w.alloc (.cells #[.int .i64 n, .slice ao es.length cap] 24) := ⟨_, rfl⟩
  rw [← hw1] at hbw0 hG hsz
  have HB1 := Nu.hid hbw0
  have HG1 := Nu.hid hG
  have HW1 := Nu.hid hw1
  clear hbw0 hG hw1
  go_enter Try.func28, Try.ntmps28
  go_wp2_with (at_make; rw [← HW1.out]; refine wpList_make_full _ rfl _ _ 26 rfl w1.heap.size 3 i0 (.int .i64 0) 1 Try.underlying26 hi hz0 hz1 _ _ _ _ es.length rfl rfl rfl rfl (by rw [hz2]; omega) (by unfold maxLen; omega) (Nat.le_refl _) ?_; refine Hid.out ?_)
  refine Nu.hid ?_
  intro w2 hrow hg2
  rw [made_zeros] at hrow
  have hik := ints_of_row hrow
  rw [← Bl.beg_zero] at hik
  have hb2 : Below w1.heap.size w1 w2 := (Below.refl _ _).grown hg2 (Nat.le_refl _) (fun j hj => by cases hj)
  have HB2 := Nu.hid (HB1.out.trans (hb2.mono HB1.out.size))
  have HG2 := Nu.hid ((hb2.block _ (by omega)).trans HG1.out)
  have HI2 := Nu.hid hik
  clear hrow hg2 hik hb2 x0 x1
  go_wp2
  go_loopw [4] (fun cv wr => ∃ k : Nat, k ≤ es.length ∧ cv = .int .i64 (k : Int) ∧ IntsBlk wr (w.heap.size + 1) (Bl.beg es.length k) ∧ wr.heap[w.heap.size]? = some (.cells #[.int .i64 n, .slice ao es.length cap] 24 (0, 0)) ∧ Below w.heap.size w wr) (fun cv _ => es.length - (intOf cv).toNat)
  case atStart => exact ⟨0, Nat.zero_le _, rfl, HI2.out, HG2.out, HB2.out⟩
  case round =>
    obtain ⟨k, hk, rfl, hI, hg, hb⟩ := hrel
    have HI := Nu.hid hI
    have HG := Nu.hid hg
    have HB := Nu.hid hb
    have cf := hI.free
    by_cases hkn : k < es.length
    · have hlti : (k : Int) < (es.length : Int) := by omega
      have hk0 : (0 : Int) ≤ (k : Int) := by omega
      have cc := hI.cell (Bl.beg_at (k := k) hkn)
      have n1 := hI.set k (k : Int)
      rw [Bl.beg_set hkn] at n1
      have HN := Nu.hid n1
      have HGN : Hid ((wr.setCell ⟨w.heap.size + 1, k, none⟩ (.int .i64 (k : Int))).heap[w.heap.size]? = some (.cells #[.int .i64 n, .slice ao es.length cap] 24 (0, 0))) := (heap_setCell_other wr ⟨w.heap.size + 1, k, none⟩ w.heap.size _ (by show w.heap.size ≠ w.heap.size + 1; omega)).trans hg
      have HBN := Nu.hid (hb.setCell (p := ⟨w.heap.size + 1, k, none⟩) (by show w.heap.size ≤ w.heap.size + 1; omega) (.int .i64 (k : Int)))
      clear hI hg hb n1
      go_wp2
      go_roundw
      case rel => exact ⟨k + 1, by omega, by go_num, HN.out, HGN.out, HBN.out⟩
      case measure => simp [intOf]; omega
    · have hlti : ¬ (k : Int) < (es.length : Int) := by omega
      obtain ⟨wA, rfl⟩ : ∃ wA, wA = wr := ⟨wr, rfl⟩
      have HCA : Hid (ClAt w n ao cap es (fun x => x) wA) := by
        refine ⟨?_, hg, hb⟩
        have e : k = es.length := by omega
        rw [e] at hI
        have e2 : Bl.nums es.length (fun x => x) = Bl.beg es.length es.length := by
          unfold Bl.nums Bl.beg
          exact List.map_congr_left fun i hi => by rw [if_pos (List.mem_range.1 hi)]
        rw [e2]
        exact hI
      clear hI hg hb HI HG HB cf
      go_wp2
      go_loopw [3, 5] (fun cs cv wr => ∃ (v : Nat) (m : Nat → Nat), v ≤ n ∧ cv = .int .i64 (v : Int) ∧ cs = .slice (some ⟨w.heap.size + 1, 0, none⟩) es.length es.length ∧ Bl.ClE n es m (Bl.Came v 0 0) ∧ ClAt w n ao cap es m wr) (fun _ cv _ => n - (intOf cv).toNat)
      case atStart => exact ⟨0, _, Nat.zero_le _, rfl, rfl, (Bl.ClE.start n es).more (fun u a b _ _ _ _ h => by unfold Bl.Came at h; omega), HCA.out⟩
      case round =>
        obtain ⟨v, m, hv, rfl, rfl, hC, hA⟩ := hrel
        have HC := Nu.hid hC
        have HA := Nu.hid hA
        obtain ⟨x0, x1, -⟩ := pair_cells hA.box
        clear hC hA
        by_cases hvn : v < n
        · have hlv : (v : Int) < (n : Int) := by omega
          have hv0 : (0 : Int) ≤ (v : Int) := by omega
          have hdl := Bl.degE_le es (v : Int)
          go_wp2_with (go_at_call 48; refine (HDEG.out _ _ HA.out.low).mono ?_; rintro e wB ⟨rfl, hbB⟩; refine Hid.out ?_)
          refine Nu.hid ?_
          have HAB := Nu.hid (HA.out.later hbB)
          clear hbB x0 x1
          by_cases hd2 : Bl.degE es (v : Int) < 2
          · have hdi : ((Bl.degE es (v : Int) : Nat) : Int) < 2 := by omega
            have HC2 := Nu.hid (HC.out.more (D' := Bl.Came (v + 1) 0 0) (fun u a b hu hab hb hp h => by
              unfold Bl.Came at h ⊢
              by_cases e : u = v
              · subst e
                obtain ⟨p, q, h1, h2, h3, h4, _⟩ := hp
                have := Bl.two_degE hab h1 h2 h3 h4
                omega
              · omega))
            go_wp2
            go_roundw
            case rel => exact ⟨v + 1, m, by omega, by go_num, rfl, HC2.out, HAB.out⟩
            case measure => simp [intOf]; omega
          · have hdi : ¬ ((Bl.degE es (v : Int) : Nat) : Int) < 2 := by omega
            obtain ⟨x0, x1, -⟩ := pair_cells HAB.out.box
            go_wp2_with (go_at_call 49; refine (HPRT.out _ _ HAB.out.low (by omega) hlv).mono ?_; rintro e wC ⟨l, pb, rfl, hpb, hpl, hL, hQ, hbC⟩; refine Hid.out ?_)
            refine Nu.hid ?_
            have HAC := Nu.hid (HAB.out.later hbC)
            have HPL := Nu.hid hpl
            have HL := Nu.hid hL
            have HQ := Nu.hid hQ
            have hpg : w.heap.size + 1 < pb := by
              have := HAB.out.cls.lt
              omega
            clear hpl hL hQ hbC hpb x0 x1
            go_wp2
            go_loopw [3, 8] (fun cs cv wr => ∃ (i : Nat) (m : Nat → Nat), i ≤ es.length ∧ cv = .int .i64 (i : Int) ∧ cs = .slice (some ⟨w.heap.size + 1, 0, none⟩) es.length es.length ∧ Bl.ClE n es m (Bl.Came v i 0) ∧ ClAt w n ao cap es m wr ∧ IntsBlk wr pb l) (fun _ cv _ => es.length - (intOf cv).toNat)
            case atStart => exact ⟨0, m, Nat.zero_le _, rfl, rfl, HC.out, HAC.out, HPL.out⟩
            case round =>
              clear HC HA HAB HAC HPL
              obtain ⟨i, m, hil, rfl, rfl, hC, hA, hpl⟩ := hrel
              have HC := Nu.hid hC
              have HA := Nu.hid hA
              have HPL := Nu.hid hpl
              obtain ⟨x0, x1, -⟩ := pair_cells hA.box
              clear hC hA hpl
              by_cases hin : i < es.length
              · have hli : (i : Int) < (es.length : Int) := by omega
                have hi0' : (0 : Int) ≤ (i : Int) := by omega
                go_wp2
                go_loopw [3, 9] (fun cs cv wr => ∃ (k : Nat) (m : Nat → Nat), i < k ∧ k ≤ es.length ∧ cv = .int .i64 (k : Int) ∧ cs = .slice (some ⟨w.heap.size + 1, 0, none⟩) es.length es.length ∧ Bl.ClE n es m (Bl.Came v i k) ∧ ClAt w n ao cap es m wr ∧ IntsBlk wr pb l) (fun _ cv _ => es.length - (intOf cv).toNat)
                case atStart => exact ⟨i + 1, m, by omega, by omega, by go_num, rfl, HC.out.more (fun u a b _ hab _ _ h => by unfold Bl.Came at h ⊢; omega), HA.out, HPL.out⟩
                case round =>
                  clear HC HA HPL x0 x1
                  obtain ⟨k, m, hik, hkl, rfl, rfl, hC, hA, hpl⟩ := hrel
                  have HC := Nu.hid hC
                  have HA := Nu.hid hA
                  have HPL := Nu.hid hpl
                  obtain ⟨x0, x1, -⟩ := pair_cells hA.box
                  clear hC hA hpl
                  by_cases hkn : k < es.length
                  · have hlk : (k : Int) < (es.length : Int) := by omega
                    have hk0 : (0 : Int) ≤ (k : Int) := by omega
                    obtain ⟨⟨p1, p2⟩, hqi⟩ : ∃ q, es[i]? = some q := ⟨_, List.getElem?_eq_getElem hin⟩
                    obtain ⟨⟨q1, q2⟩, hqk⟩ : ∃ q, es[k]? = some q := ⟨_, List.getElem?_eq_getElem hkn⟩
                    have hoi := HVAL.out.each i _ hqi
                    have hok := HVAL.out.each k _ hqk
                    unfold Si.ok at hoi hok
                    dsimp only at hoi hok
                    obtain ⟨b, o, rfl, -, -⟩ := HE.out i _ hqi
                    have HQI := Nu.hid hqi
                    have HQK := Nu.hid hqk
                    obtain ⟨c0, c1⟩ := (HE.out.later HA.out.low).two hqi
                    obtain ⟨e0, e1⟩ := (HE.out.later HA.out.low).two hqk
                    clear hqi hqk
                    by_cases hh : p1 = (v : Int) ∨ p2 = (v : Int)
                    · go_wp2_with (go_at_call 34; refine (at9_yes hh _).mono ?_; rintro e wF ⟨rfl, hb1⟩; refine Hid.out ?_)
                      refine Nu.hid ?_
                      have HA1 := Nu.hid (HA.out.later hb1)
                      have HPL1 := Nu.hid (HPL.out.later hb1)
                      obtain ⟨x0, x1, -⟩ := pair_cells HA1.out.box
                      obtain ⟨c0, c1⟩ := (HE.out.later HA1.out.low).two HQI.out
                      obtain ⟨e0, e1⟩ := (HE.out.later HA1.out.low).two HQK.out
                      clear hb1
                      by_cases ht : q1 = (v : Int) ∨ q2 = (v : Int)
                      · go_wp2_with (go_at_call 34; refine (at9_yes ht _).mono ?_; rintro e wG ⟨rfl, hb2⟩; refine Hid.out ?_)
                        refine Nu.hid ?_
                        have HA2 := Nu.hid (HA1.out.later hb2)
                        have HPL2 := Nu.hid (HPL1.out.later hb2)
                        obtain ⟨x0, x1, -⟩ := pair_cells HA2.out.box
                        obtain ⟨c0, c1⟩ := (HE.out.later HA2.out.low).two HQI.out
                        obtain ⟨e0, e1⟩ := (HE.out.later HA2.out.low).two HQK.out
                        clear hb2
                        have hAe : ∃ A : Nat, (if p1 = (v : Int) then p2 else p1) = (A : Int) ∧ A < n ∧ (A : Int) ≠ (v : Int) := by
                          refine ⟨(if p1 = (v : Int) then p2 else p1).toNat, ?_, ?_, ?_⟩ <;> split <;> omega
                        have hBe : ∃ B : Nat, (if q1 = (v : Int) then q2 else q1) = (B : Int) ∧ B < n ∧ (B : Int) ≠ (v : Int) := by
                          refine ⟨(if q1 = (v : Int) then q2 else q1).toNat, ?_, ?_, ?_⟩ <;> split <;> omega
                        obtain ⟨A, hA, hAn, hAv⟩ := hAe
                        obtain ⟨B, hB, hBn, hBv⟩ := hBe
                        have HOA : Hid (Bl.othE (p1, p2) v = (A : Int)) := hA
                        have HOB : Hid (Bl.othE (q1, q2) v = (B : Int)) := hB
                        clear hA hB
                        go_wp2_with (go_at_call 50; refine (oth9_is HOA.out _).mono ?_; rintro e wH ⟨rfl, hb3⟩; refine Hid.out ?_)
                        refine Nu.hid ?_
                        have HA3 := Nu.hid (HA2.out.later hb3)
                        have HPL3 := Nu.hid (HPL2.out.later hb3)
                        obtain ⟨x0, x1, -⟩ := pair_cells HA3.out.box
                        obtain ⟨c0, c1⟩ := (HE.out.later HA3.out.low).two HQI.out
                        obtain ⟨e0, e1⟩ := (HE.out.later HA3.out.low).two HQK.out
                        clear hb3
                        go_wp2_with (go_at_call 50; refine (oth9_is HOB.out _).mono ?_; rintro e wI ⟨rfl, hb4⟩; refine Hid.out ?_)
                        refine Nu.hid ?_
                        have HA4 := Nu.hid (HA3.out.later hb4)
                        have HPL4 := Nu.hid (HPL3.out.later hb4)
                        obtain ⟨x0, x1, -⟩ := pair_cells HA4.out.box
                        obtain ⟨c0, c1⟩ := (HE.out.later HA4.out.low).two HQI.out
                        obtain ⟨e0, e1⟩ := (HE.out.later HA4.out.low).two HQK.out
                        clear hb4
                        have hll := HL.out.len
                        obtain ⟨la, hla⟩ : ∃ x, l[A]? = some x := ⟨_, List.getElem?_eq_getElem (by omega)⟩
                        obtain ⟨lb, hlb⟩ : ∃ x, l[B]? = some x := ⟨_, List.getElem?_eq_getElem (by omega)⟩
                        have f0 := HPL4.out.cell hla
                        have f1 := HPL4.out.cell hlb
                        have A0 : (0 : Int) ≤ (A : Int) := by omega
                        have A1 : (A : Int) < (n : Int) := by omega
                        have B0 : (0 : Int) ≤ (B : Int) := by omega
                        have B1 : (B : Int) < (n : Int) := by omega
                        have HDN := Nu.hid (HL.out.done HQ.out hAn hBn hAv hBv)
                        rw [hla, hlb] at HDN
                        have HHT := Nu.hid (And.intro hh ht)
                        clear hla hlb hh ht hoi hok
                        by_cases hlab : la = lb
                        · have hd : (la == lb) = true := by simp [hlab]
                          have HPR : Hid (Bl.PairE es v i k) := ⟨_, _, HQI.out, HQK.out, HHT.out.1, HHT.out.2, by
                            rw [HOA.out, HOB.out, Int.toNat_natCast, Int.toNat_natCast]
                            exact HDN.out.1 (by rw [hlab])⟩
                          have HC2 := Nu.hid ((HC.out.join hvn hin hkn HPR.out).more (D' := Bl.Came v i (k + 1)) (fun u a b _ hab hb _ h => by unfold Bl.Came at h ⊢; omega))
                          clear hlab
                          go_wp2_with fail
                          go_quiet (fail)
                          go_wp2_with (go_at_call 51; refine (join9_any _ _ m i k _ (HA4.out.drewN nq).cls hin hkn hfew).mono ?_; rintro e wJ ⟨rfl, hcJ, hwJ⟩; refine Hid.out ?_)
                          refine Nu.hid ?_
                          have HAJ := Nu.hid ((HA4.out.drewN nq).put hcJ hwJ)
                          have HPJ := Nu.hid ((hwJ.block pb HPL4.out.lt (by omega)).trans HPL4.out)
                          clear hcJ hwJ
                          go_wp2
                          go_roundw
                          case rel => exact ⟨k + 1, _, by omega, by omega, by go_num, rfl, HC2.out, HAJ.out, HPJ.out⟩
                          case measure => simp [intOf]; omega
                        · have hd : (la == lb) = false := by simp [hlab]
                          have HC2 := Nu.hid (HC.out.more (D' := Bl.Came v i (k + 1)) (fun u a b _ hab hb hp h => by
                            unfold Bl.Came at h ⊢
                            by_cases e : u = v ∧ a = i ∧ b = k
                            · obtain ⟨rfl, rfl, rfl⟩ := e
                              obtain ⟨p, q, h1, h2, _, _, h5⟩ := hp
                              rw [HQI.out] at h1
                              rw [HQK.out] at h2
                              cases h1
                              cases h2
                              rw [HOA.out, HOB.out, Int.toNat_natCast, Int.toNat_natCast] at h5
                              exact absurd (Option.some.inj (HDN.out.2 h5)) hlab
                            · omega))
                          clear hlab
                          go_wp2_with fail
                          go_quiet (fail)
                          go_wp2
                          go_roundw
                          case rel => exact ⟨k + 1, m, by omega, by omega, by go_num, rfl, HC2.out, HA4.out.drewN _, HPL4.out⟩
                          case measure => simp [intOf]; omega
                      · go_wp2_with (go_at_call 34; refine (at9_no ht _).mono ?_; rintro e wG ⟨rfl, hb2⟩; refine Hid.out ?_)
                        refine Nu.hid ?_
                        have HA2 := Nu.hid (HA1.out.later hb2)
                        have HPL2 := Nu.hid (HPL1.out.later hb2)
                        obtain ⟨x0, x1, -⟩ := pair_cells HA2.out.box
                        obtain ⟨c0, c1⟩ := (HE.out.later HA2.out.low).two HQI.out
                        obtain ⟨e0, e1⟩ := (HE.out.later HA2.out.low).two HQK.out
                        clear hb2
                        have HC2 := Nu.hid (HC.out.more (D' := Bl.Came v i (k + 1)) (fun u a b _ hab hb hp h => by
                          unfold Bl.Came at h ⊢
                          by_cases e : u = v ∧ a = i ∧ b = k
                          · obtain ⟨rfl, rfl, rfl⟩ := e
                            obtain ⟨p, q, h1, h2, h3, h4, _⟩ := hp
                            rw [HQI.out] at h1
                            rw [HQK.out] at h2
                            cases h1
                            cases h2
                            exact absurd h4 ht
                          · omega))
                        go_wp2
                        go_roundw
                        case rel => exact ⟨k + 1, m, by omega, by omega, by go_num, rfl, HC2.out, HA2.out, HPL2.out⟩
                        case measure => simp [intOf]; omega
                    · go_wp2_with (go_at_call 34; refine (at9_no hh _).mono ?_; rintro e wF ⟨rfl, hb1⟩; refine Hid.out ?_)
                      refine Nu.hid ?_
                      have HA1 := Nu.hid (HA.out.later hb1)
                      have HPL1 := Nu.hid (HPL.out.later hb1)
                      obtain ⟨x0, x1, -⟩ := pair_cells HA1.out.box
                      obtain ⟨c0, c1⟩ := (HE.out.later HA1.out.low).two HQI.out
                      obtain ⟨e0, e1⟩ := (HE.out.later HA1.out.low).two HQK.out
                      clear hb1
                      by_cases ht : q1 = (v : Int) ∨ q2 = (v : Int)
                      · go_wp2_with (go_at_call 34; refine (at9_yes ht _).mono ?_; rintro e wG ⟨rfl, hb2⟩; refine Hid.out ?_)
                        refine Nu.hid ?_
                        have HA2 := Nu.hid (HA1.out.later hb2)
                        have HPL2 := Nu.hid (HPL1.out.later hb2)
                        obtain ⟨x0, x1, -⟩ := pair_cells HA2.out.box
                        obtain ⟨c0, c1⟩ := (HE.out.later HA2.out.low).two HQI.out
                        obtain ⟨e0, e1⟩ := (HE.out.later HA2.out.low).two HQK.out
                        clear hb2
                        have HC2 := Nu.hid (HC.out.more (D' := Bl.Came v i (k + 1)) (fun u a b _ hab hb hp h => by
                          unfold Bl.Came at h ⊢
                          by_cases e : u = v ∧ a = i ∧ b = k
                          · obtain ⟨rfl, rfl, rfl⟩ := e
                            obtain ⟨p, q, h1, h2, h3, h4, _⟩ := hp
                            rw [HQI.out] at h1
                            rw [HQK.out] at h2
                            cases h1
                            cases h2
                            exact absurd h3 hh
                          · omega))
                        go_wp2
                        go_roundw
                        case rel => exact ⟨k + 1, m, by omega, by omega, by go_num, rfl, HC2.out, HA2.out, HPL2.out⟩
                        case measure => simp [intOf]; omega
                      · go_wp2_with (go_at_call 34; refine (at9_no ht _).mono ?_; rintro e wG ⟨rfl, hb2⟩; refine Hid.out ?_)
                        refine Nu.hid ?_
                        have HA2 := Nu.hid (HA1.out.later hb2)
                        have HPL2 := Nu.hid (HPL1.out.later hb2)
                        obtain ⟨x0, x1, -⟩ := pair_cells HA2.out.box
                        obtain ⟨c0, c1⟩ := (HE.out.later HA2.out.low).two HQI.out
                        obtain ⟨e0, e1⟩ := (HE.out.later HA2.out.low).two HQK.out
                        clear hb2
                        have HC2 := Nu.hid (HC.out.more (D' := Bl.Came v i (k + 1)) (fun u a b _ hab hb hp h => by
                          unfold Bl.Came at h ⊢
                          by_cases e : u = v ∧ a = i ∧ b = k
                          · obtain ⟨rfl, rfl, rfl⟩ := e
                            obtain ⟨p, q, h1, h2, h3, h4, _⟩ := hp
                            rw [HQI.out] at h1
                            rw [HQK.out] at h2
                            cases h1
                            cases h2
                            exact absurd h3 hh
                          · omega))
                        go_wp2
                        go_roundw
                        case rel => exact ⟨k + 1, m, by omega, by omega, by go_num, rfl, HC2.out, HA2.out, HPL2.out⟩
                        case measure => simp [intOf]; omega
                  · have hlk : ¬ (k : Int) < (es.length : Int) := by omega
                    have HC2 := Nu.hid (HC.out.more (D' := Bl.Came v (i + 1) 0) (fun u a b _ hab hb _ h => by unfold Bl.Came at h ⊢; omega))
                    go_wp2
                    go_roundw
                    case rel => exact ⟨i + 1, m, by omega, by go_num, rfl, HC2.out, HA.out, HPL.out⟩
                    case measure => simp [intOf]; omega
              · have hli : ¬ (i : Int) < (es.length : Int) := by omega
                have HC2 := Nu.hid (HC.out.more (D' := Bl.Came (v + 1) 0 0) (fun u a b _ hab hb _ h => by unfold Bl.Came at h ⊢; omega))
                go_wp2
                go_roundw
                case rel => exact ⟨v + 1, m, by omega, by go_num, rfl, HC2.out, HA.out⟩
                case measure => simp [intOf]; omega
        · have hlv : ¬ (v : Int) < (n : Int) := by omega
          have HC2 := Nu.hid (HC.out.more (D' := fun _ _ _ => True) (fun u a b hu _ _ _ _ => .inl (by omega)))
          go_wp2
          go_ret
          exact ⟨m, w.heap.size + 1, rfl, by omega, HA.out.cls, HC2.out, HA.out.low⟩
end Go.Proofs.Ytalfpbalekbinaa

/-
  Edges gone through one after another: the first, the last.
-/
namespace Go.Proofs.Ytalfpbalekbinaa
open Go.RowKit Go.Sort

theorem Si.UpTo.first {n : Int} {es : List (Int × Int)} {l p : Int × Int} (h : Si.UpTo n es 0 l) (ho : Si.ok n p) : Si.lt l p := by
  rcases h.2.2 with ⟨_, rfl⟩ | ⟨k', hk, _⟩
  · unfold Si.ok at ho
    unfold Si.lt
    dsimp only
    omega
  · omega

theorem Si.UpTo.last {n : Int} {es : List (Int × Int)} {k : Nat} {l : Int × Int} (h : Si.UpTo n es (k + 1) l) : es[k]? = some l := by
  rcases h.2.2 with ⟨h0, _⟩ | ⟨k', hk, hl⟩
  · omega
  · obtain rfl : k = k' := by omega
    exact hl

end Go.Proofs.Ytalfpbalekbinaa

/-
  The order of edges as the document asks it.
-/
namespace Go.Proofs.Ytalfpbalekbinaa
open Go.RowKit Go.Sort

set_option maxHeartbeats 1000000 in
theorem less_any (a b : Int × Int) (w : World) : Calls Try.prog 36 #[edgeVal a, edgeVal b] w fun e w' => e = .returned (.bool (decide (Si.lt a b))) ∧ ∃ q os', w' = grow (w.drewN q) os' := by
  unfold edgeVal
  by_cases h1 : a.1 < b.1
  · have hd : decide (Si.lt a b) = true := by simp [Si.lt, h1]
    rw [hd]
    go_enter Try.func36, Try.ntmps36
    go_wp2
    go_ret
    exact ⟨rfl, 0, _, by rw [alloc_eq_grow, alloc_eq_grow, grow_grow]; rfl⟩
  · by_cases h2 : a.1 = b.1
    · by_cases h3 : a.2 < b.2
      · have hd : decide (Si.lt a b) = true := by simp [Si.lt, h2, h3]
        rw [hd]
        go_enter Try.func36, Try.ntmps36
        go_wp2
        go_ret
        exact ⟨rfl, 0, _, by rw [alloc_eq_grow, alloc_eq_grow, grow_grow]; rfl⟩
      · have hd : decide (Si.lt a b) = false := by simp [Si.lt, h1, h3]
        rw [hd]
        go_enter Try.func36, Try.ntmps36
        go_wp2
        go_ret
        exact ⟨rfl, 0, _, by rw [alloc_eq_grow, alloc_eq_grow, grow_grow]; rfl⟩
    · have hd : decide (Si.lt a b) = false := by simp [Si.lt, h1, h2]
      rw [hd]
      go_enter Try.func36, Try.ntmps36
      go_wp2
      go_ret
      exact ⟨rfl, 0, _, by rw [alloc_eq_grow, alloc_eq_grow, grow_grow]; rfl⟩

theorem grown_of_grow {w w' : World} (h : ∃ (q : Nat) (os' : Array Obj), w' = grow (w.drewN q) os') : Below w.heap.size w w' := by
  obtain ⟨q, os', rfl⟩ := h
  exact grow_below w q os'

end Go.Proofs.Ytalfpbalekbinaa
