import Derived.Test.YtmgoahbloppdmaaMg32
import Derived.Test.YtmgoahbloppdmaaMg28
import Derived.Test.YtmgoahbloppdmaaMg27
import Derived.Deep.CutRange
import Derived.Test.YtmgoahbloppdmaaMg02
import Derived.Test.YtmgoahbloppdmaaMg08
import Derived.Deep.Slices
/-
  The statements' own 'without': do an edge's ends hang together without it?
-/
namespace Go.Proofs.Ytmgoahbloppdmaa
open Go.RowKit

/-- The sum of the numbers of a block. -/
def smW (w : World) (g : Nat) : Nat := match w.heap[g]? with
  | some (.cells cs _ _) => Lo.sm (cs.toList.map intOf)
  | _ => 0
theorem smW_of {w : World} {g : Nat} {l : List Int} (h : IntsBlk w g l) : smW w g = Lo.sm l := by
  unfold smW
  have h' : w.heap[g]? = some (.cells (l.map (Value.int .i64)).toArray 3 (0, 0)) := h
  rw [h']
  simp [intOf, Function.comp_def]

/-- 1 of yes, 0 of all else. -/
def yesN : Value → Nat
  | .bool true => 1
  | _ => 0

/-- 1 where they hang together no more, 0 where they do. -/
def WoPost (es : List (Int × Int)) (s : Df.St) (e : Nat) (w : World) (r : Ending) (w' : World) : Prop :=
  ∃ x : Int, r = .returned (.int .i64 x) ∧ ((x = 1 ∧ ¬ Lo.Conn es s e (Lo.eU es e) (Lo.eV es e)) ∨ (x = 0 ∧ Lo.Conn es s e (Lo.eU es e) (Lo.eV es e))) ∧ Below w.heap.size w w'

section
variable {w : World} {n : Nat} {ao : Option Addr} {ca : Nat} {es : List (Int × Int)} {s : Df.St} {e : Nat}

/-- Where an edge's ends lie. -/
theorem edge_at {k : Nat} {V : World} (he : EdgesAt V ao es) (hv : Si.Val n es) (hk : k < es.length) : ∃ b o, ao = some ⟨b, o, none⟩ ∧ V.cell? ⟨b, o + k * 2, none⟩ = some (.int .i64 (Lo.eU es k : Int)) ∧ V.cell? ⟨b, o + k * 2 + 1, none⟩ = some (.int .i64 (Lo.eV es k : Int)) ∧ Lo.eU es k < n ∧ Lo.eV es k < n ∧ Lo.eU es k ≠ Lo.eV es k := by
  obtain ⟨p, hp, hok, hh⟩ := half_edge hv (j := 2 * k) (by omega)
  rw [show 2 * k / 2 = k by omega] at hp
  obtain ⟨b, o, ea, q0, q1⟩ := he k p hp
  unfold Si.ok at hok
  rcases hh with ⟨_, h1, h2⟩ | ⟨h0, _⟩
  · have h1' : (Lo.eU es k : Int) = p.1 := h1
    have h2' : (Lo.eV es k : Int) = p.2 := h2
    refine ⟨b, o, ea, ?_, ?_, by omega, by omega, by omega⟩
    · rw [h1']; exact q0
    · rw [h2']; exact q1
  · omega

/-- What one going through the edges has made of the labels. -/
structure Pas (n : Nat) (es : List (Int × Int)) (s : Df.St) (e : Nat) (S0 k : Nat) (ch : Bool) (l : List Int) : Prop where
  lab : Lo.Lab n es s e l
  yes : ch = true → Lo.sm l < S0
  no : ch = false → Lo.sm l = S0 ∧ ∀ j, j < k → j ≠ e → Df.at_ l (Lo.eU es j) = Df.at_ l (Lo.eV es j)

set_option maxRecDepth 100000 in
set_option maxHeartbeats 16000000 in
theorem without_any (he : EdgesAt w ao es) (hv : Si.Val n es) (hVF : Df.VF n es s) (hel : e < es.length) :
    Calls Try.prog 11 #[.agg #[.int .i64 (n : Int), .slice ao es.length ca], .int .i64 (e : Int)] w (WoPost es s e w) := by
  have hfew := hv.few
  have hhi := hv.hi
  obtain ⟨W, hW⟩ : ∃ W, W = w.alloc (.cells #[.int .i64 (n : Int), .slice ao es.length ca] 24) := ⟨_, rfl⟩
  obtain ⟨A, hA⟩ : ∃ A, A = W.alloc (.cells (madeCells #[.int .i64 0] n) 3) := ⟨_, rfl⟩
  have hsW : W.heap.size = w.heap.size + 1 := by rw [hW]; simp
  have hsA : A.heap.size = w.heap.size + 2 := by rw [hA]; simp; omega
  have hB0 : Below w.heap.size w W := by rw [hW]; exact (Below.refl _ _).alloc (Nat.le_refl _) _
  have hBA : Below w.heap.size w A := by rw [hA]; exact hB0.alloc (by omega) _
  have g1 : A.heap[w.heap.size]? = some (.cells #[.int .i64 (n : Int), .slice ao es.length ca] 24 (0, 0)) := by
    rw [hA, Below.heap_alloc _ _ _ (by omega), hW]
    exact heap_alloc_new w _
  have gA : IntsBlk A (w.heap.size + 1) (List.replicate n 0) := by rw [hA]; exact made_blk hsW
  have HST : Hid (∀ V, Wrote (fun b => b = w.heap.size + 1) A V → V.cell? ⟨w.heap.size, 0, none⟩ = some (.int .i64 (n : Int)) ∧ V.cell? ⟨w.heap.size, 1, none⟩ = some (.slice ao es.length ca) ∧ EdgesAt V ao es ∧ Below w.heap.size w V ∧ w.heap.size + 2 ≤ V.heap.size) := fun V hV => by
    obtain ⟨x0, x1, -⟩ := pair_cells ((hV.block w.heap.size (by omega) (by omega)).trans g1)
    have hb := hBA.trans (hV.below (B := w.heap.size) (by omega) (fun k hk => by omega))
    exact ⟨x0, x1, he.later hb, hb, by have := hV.size; omega⟩
  have HV := Nu.hid hv
  have HVF := Nu.hid hVF
  have HGA := Nu.hid gA
  obtain ⟨x0, x1, -⟩ := pair_cells g1
  have HWA : Hid (A = (w.alloc (.cells #[.int .i64 (n : Int), .slice ao es.length ca] 24)).alloc (.cells (madeCells #[.int .i64 0] n) 3)) := by rw [hA, hW]; exact Nu.hid rfl
  have hx0 : W.cell? ⟨w.heap.size, 0, none⟩ = some (.int .i64 (n : Int)) := by rw [hW]; simp
  rw [hW] at hx0
  have hn0 : (0 : Int) ≤ (n : Int) := by omega
  obtain ⟨i0, hi, hz0, hz1, hz2⟩ := info_parts Try.infoNum
  have hmk : ∀ W, (Instr.makeSlice 26 (.int .i64 (n : Int)) (.int .i64 (n : Int))).run Try.prog W = .ok (.slice (some ⟨W.heap.size, 0, none⟩) n n) (W.alloc (.cells (madeCells #[.int .i64 0] n) 3)) := fun W => by
    have := run_make (P := Try.prog) W 26 3 i0 (.int .i64 0) Try.underlying26 hi hz0 .i64 .i64 (n : Int) (n : Int) (by omega) (Int.le_refl _) (by rw [hz2]; omega) (by omega)
    rw [this, hz1]
    simp [Value.cells]
  clear he hv hVF hB0 hBA g1 gA hA hW x0 x1
  go_enter Try.func11, Try.ntmps11
  go_wp2
  rw [← HWA.out]
  clear HWA hx0 hi hz0 hz1 hz2 hmk
  go_loopw [17] (fun cv wr => ∃ (k : Nat) (l : List Int), k ≤ n ∧ cv = .int .i64 (k : Int) ∧ l.length = n ∧ (∀ u, u < k → Df.at_ l u = (u : Int)) ∧ IntsBlk wr (w.heap.size + 1) l ∧ Wrote (fun b => b = w.heap.size + 1) A wr) (fun cv _ => n - (intOf cv).toNat)
  case atStart => exact ⟨0, _, Nat.zero_le _, rfl, by simp, fun u hu => by omega, HGA.out, Wrote.refl _ _⟩
  case round =>
    obtain ⟨k, l, hk, rfl, hl, hat, hblk, hwr⟩ := hrel
    by_cases hlt : k < n
    · have hlti : (k : Int) < (n : Int) := by omega
      have hk0 : (0 : Int) ≤ (k : Int) := by omega
      have hc := hblk.cell (i := k) (getD_of (-1) (by omega))
      have hfz := hblk.free k
      have HL := Nu.hid hl
      have HAT := Nu.hid hat
      have HBLK := Nu.hid hblk
      have HWR := Nu.hid hwr
      have hbl := hblk.lt
      clear hl hat hblk hwr
      go_wp2
      go_roundw
      case rel =>
        refine ⟨k + 1, l.set k (k : Int), by omega, by go_num, by rw [List.length_set]; exact HL.out, fun u hu => ?_, HBLK.out.set k _, HWR.out.setCell rfl _⟩
        rw [Lo.at_set2 (by rw [HL.out]; exact hlt)]
        by_cases h : u = k
        · rw [if_pos h, h]
        · rw [if_neg h]; exact HAT.out u (by omega)
      case measure => simp [intOf]; omega
    · obtain rfl : k = n := by omega
      have hd : ¬ (k : Int) < (k : Int) := by omega
      have HL0 : Hid (Lo.Lab k es s e l) := Lo.Lab.start hl hat
      have HBLK := Nu.hid hblk
      have HWR := Nu.hid hwr
      have HHEL := Nu.hid hel
      clear hl hat hblk hwr hlt hk hel
      go_wp2
      go_loopw [7] (fun cb wr => ∃ (ch : Bool) (l : List Int), cb = .bool ch ∧ Lo.Lab k es s e l ∧ (ch = false → ∀ j, j < es.length → j ≠ e → Df.at_ l (Lo.eU es j) = Df.at_ l (Lo.eV es j)) ∧ IntsBlk wr (w.heap.size + 1) l ∧ Wrote (fun b => b = w.heap.size + 1) A wr) (fun cb wr => 2 * smW wr (w.heap.size + 1) + yesN cb)
      case atStart => exact ⟨true, _, rfl, HL0.out, fun h => (by cases h), HBLK.out, HWR.out⟩
      case round =>
        clear HL0 HBLK HWR
        obtain ⟨ch, l0, rfl, hL0, hM0, hblk0, hwr0⟩ := hrel
        obtain ⟨w0, rfl⟩ : ∃ w0, w0 = wr := ⟨wr, rfl⟩
        have HBLK0 := Nu.hid hblk0
        have HWR0 := Nu.hid hwr0
        have HL0 := Nu.hid hL0
        have HM0 := Nu.hid hM0
        have hsm0 := smW_of hblk0
        cases ch with
        | true =>
          obtain ⟨x0, x1, -, -, hsz0⟩ := HST.out w0 hwr0
          have HSM0 := Nu.hid hsm0
          clear hL0 hM0 hblk0 hwr0 hsm0
          go_wp2
          go_loopw [7, 29] (fun cb cv wr => ∃ (i : Nat) (ch : Bool) (l : List Int), i ≤ es.length ∧ cv = .int .i64 (i : Int) ∧ cb = .bool ch ∧ Pas k es s e (Lo.sm l0) i ch l ∧ IntsBlk wr (w.heap.size + 1) l ∧ Wrote (fun b => b = w.heap.size + 1) A wr) (fun _ cv _ => es.length - (intOf cv).toNat)
          case atStart => exact ⟨0, false, l0, Nat.zero_le _, rfl, rfl, ⟨HL0.out, (fun h => by cases h), fun _ => ⟨rfl, fun j hj => by omega⟩⟩, HBLK0.out, HWR0.out⟩
          case round =>
            obtain ⟨i, ch, l, hi, rfl, rfl, hP, hblk, hwr⟩ := hrel
            have HP := Nu.hid hP
            have HBLK := Nu.hid hblk
            have HWR := Nu.hid hwr
            obtain ⟨x0, x1, hE, -, hsz⟩ := HST.out wr hwr
            by_cases hlt : i < es.length
            · have hlti : (i : Int) < (es.length : Int) := by omega
              have hi0 : (0 : Int) ≤ (i : Int) := by omega
              obtain ⟨eb, eo, rfl, c0, c1, hU, hV, hUV⟩ := edge_at hE HV.out hlt
              obtain ⟨U, hUe⟩ : ∃ U, Lo.eU es i = U := ⟨_, rfl⟩
              obtain ⟨V, hVe⟩ : ∃ V, Lo.eV es i = V := ⟨_, rfl⟩
              rw [hUe] at c0 hU hUV
              rw [hVe] at c1 hV hUV
              have u0 : (0 : Int) ≤ (U : Int) := by omega
              have u1 : (U : Int) < (k : Int) := by omega
              have v0 : (0 : Int) ≤ (V : Int) := by omega
              have v1 : (V : Int) < (k : Int) := by omega
              have hlen := hP.lab.len
              have cbl := block_lt_of_cell c0
              obtain ⟨w1, hw1⟩ : ∃ w1, w1 = wr.alloc (.cells #[.int .i64 (U : Int), .int .i64 (V : Int)] 46) := ⟨_, rfl⟩
              have hs1 : w1.heap.size = wr.heap.size + 1 := by rw [hw1]; simp
              have hwr1 : Wrote (fun b => b = w.heap.size + 1) A w1 := by rw [hw1]; exact hwr.alloc _
              have hblk1 : IntsBlk w1 (w.heap.size + 1) l := by rw [hw1]; exact hblk.alloc _
              have hx : w1.heap[wr.heap.size]? = some (.cells #[.int .i64 (U : Int), .int .i64 (V : Int)] 46 (0, 0)) := by rw [hw1]; exact heap_alloc_new wr _
              obtain ⟨b0, b1, -⟩ := pair_cells hx
              have q0 := hblk1.cell (i := U) (getD_of (-1) (by omega))
              have q1 := hblk1.cell (i := V) (getD_of (-1) (by omega))
              obtain ⟨y0, y1, -⟩ := HST.out w1 hwr1
              have HW1 := Nu.hid hw1
              have HBLK1 := Nu.hid hblk1
              have HWR1 := Nu.hid hwr1
              have HX := Nu.hid hx
              have HLT := Nu.hid hlt
              have HUE := Nu.hid hUe
              have HVE := Nu.hid hVe
              have HLN := Nu.hid hlen
              have HUV : Hid (U ≠ V ∧ U < k ∧ V < k) := ⟨hUV, hU, hV⟩
              obtain ⟨zu, hzu⟩ : ∃ z, l.getD U (-1) = z := ⟨_, rfl⟩
              obtain ⟨zv, hzv⟩ : ∃ z, l.getD V (-1) = z := ⟨_, rfl⟩
              rw [hzu] at q0
              rw [hzv] at q1
              have HZU : Hid (Df.at_ l U = zu) := hzu
              have HZV : Hid (Df.at_ l V = zv) := hzv
              clear hP hblk hwr hE hlt hUe hVe hw1 hwr1 hblk1 hx hzu hzv hlen hU hV hUV
              go_wp2_with fail
              rw [← HW1.out]
              by_cases hie : i = e
              · subst hie
                have j1 : ((i : Int) != (i : Int)) = false := by simp
                go_quiet (fail)
                go_wp2
                go_roundw
                case rel =>
                  refine ⟨i + 1, ch, l, HLT.out, by go_num, rfl, ⟨HP.out.lab, HP.out.yes, fun h => ⟨(HP.out.no h).1, fun j hj hji => (HP.out.no h).2 j (by omega) hji⟩⟩, HBLK1.out, HWR1.out.drewN _⟩
                case measure => have := HLT.out; simp [intOf]; omega
              · have j1 : ((i : Int) != (e : Int)) = true := by simp; omega
                by_cases hzz : zu = zv
                · have j2 : (zu != zv) = false := by simp [hzz]
                  go_quiet (fail)
                  go_wp2
                  go_roundw
                  case rel =>
                    refine ⟨i + 1, ch, l, HLT.out, by go_num, rfl, ⟨HP.out.lab, HP.out.yes, fun h => ⟨(HP.out.no h).1, fun j hj hji => ?_⟩⟩, HBLK1.out, HWR1.out.drewN _⟩
                    by_cases hji2 : j = i
                    · rw [hji2, HUE.out, HVE.out, HZU.out, HZV.out]; exact hzz
                    · exact (HP.out.no h).2 j (by omega) hji
                  case measure => have := HLT.out; simp [intOf]; omega
                · have j2 : (zu != zv) = true := by simp [hzz]
                  have f0 := HBLK1.out.free U
                  have s1 : ∀ q, IntsBlk ((w1.drewN q).setCell ⟨w.heap.size + 1, U, none⟩ (.int .i64 (min zu zv))) (w.heap.size + 1) (l.set U (min zu zv)) := fun q => IntsBlk.set (w := w1.drewN q) HBLK1.out U (min zu zv)
                  have f1 := fun q => (s1 q).free V
                  have q2 := fun q => (s1 q).cell (i := V) (getD_of (-1) (by rw [List.length_set]; have := HLN.out; omega))
                  have HS2 := Nu.hid (fun q => (s1 q).set V (min zu zv))
                  have HW2 := Nu.hid (fun q => ((HWR1.out.drewN q).setCell (b := w.heap.size + 1) (i := U) rfl (.int .i64 (min zu zv))).setCell (b := w.heap.size + 1) (i := V) rfl (.int .i64 (min zu zv)))
                  have hgx : w.heap.size + 1 ≠ wr.heap.size := by omega
                  have b0' : ∀ q, ((w1.drewN q).setCell ⟨w.heap.size + 1, U, none⟩ (.int .i64 (min zu zv))).cell? ⟨wr.heap.size, 0, none⟩ = some (.int .i64 (U : Int)) := fun q => by
                    rw [← b0]; simp only [World.cell?]; rw [heap_setCell_other (w1.drewN q) ⟨w.heap.size + 1, U, none⟩ wr.heap.size _ (fun h => hgx h.symm)]; rfl
                  have b1' : ∀ q, ((w1.drewN q).setCell ⟨w.heap.size + 1, U, none⟩ (.int .i64 (min zu zv))).cell? ⟨wr.heap.size, 1, none⟩ = some (.int .i64 (V : Int)) := fun q => by
                    rw [← b1]; simp only [World.cell?]; rw [heap_setCell_other (w1.drewN q) ⟨w.heap.size + 1, U, none⟩ wr.heap.size _ (fun h => hgx h.symm)]; rfl
                  have HPN : Hid (Pas k es s e (Lo.sm l0) (i + 1) true ((l.set U (min zu zv)).set V (min zu zv))) := by
                    have hmin : min (Df.at_ l (Lo.eU es i)) (Df.at_ l (Lo.eV es i)) = min zu zv := by rw [HUE.out, HVE.out, HZU.out, HZV.out]
                    have hj := HP.out.lab.join HVF.out HLT.out hie (by rw [HUE.out]; exact HUV.out.2.1) (by rw [HVE.out]; exact HUV.out.2.2)
                    have hg1 := HP.out.lab.lab U HUV.out.2.1
                    have hg2 := HP.out.lab.lab V HUV.out.2.2
                    rw [hmin, HUE.out, HVE.out] at hj
                    have hsj := Lo.sm_join (l := l) (u := U) (v := V) HUV.out.1 (by rw [HLN.out]; exact HUV.out.2.1) (by rw [HLN.out]; exact HUV.out.2.2) (by obtain ⟨_, _, h, _⟩ := hg1; omega) (by obtain ⟨_, _, h, _⟩ := hg2; omega) (by rw [HZU.out, HZV.out]; exact hzz)
                    rw [HUE.out, HVE.out] at hmin
                    rw [hmin] at hsj
                    refine Nu.hid ⟨hj, fun _ => ?_, fun h => by cases h⟩
                    cases ch
                    · have := (HP.out.no rfl).1
                      omega
                    · have := HP.out.yes rfl
                      omega
                  clear s1
                  go_quiet (fail)
                  go_wp2_with fail
                  go_quiet (fail)
                  go_wp2_with fail
                  go_big_region
                  all_goals
                    go_wp2
                    go_roundw
                    case rel => exact ⟨i + 1, true, _, HLT.out, by go_num, rfl, HPN.out, HS2.out _, HW2.out _⟩
                    case measure => have := HLT.out; simp [intOf]; omega
            · obtain rfl : i = es.length := by omega
              have hd : ¬ (es.length : Int) < (es.length : Int) := by omega
              have HSM := Nu.hid (smW_of hblk)
              clear hP hblk hwr hE hlt hi
              cases ch with
              | true =>
                go_wp2
                go_roundw
                case rel => exact ⟨true, l, rfl, HP.out.lab, (fun h => by cases h), HBLK.out, HWR.out⟩
                case measure =>
                  have h1 := HSM.out
                  have h2 := HSM0.out
                  have h3 := HP.out.yes rfl
                  simp only [yesN]
                  omega
              | false =>
                go_wp2
                go_roundw
                case rel => exact ⟨false, l, rfl, HP.out.lab, (fun _ j hj hje => (HP.out.no rfl).2 j hj hje), HBLK.out, HWR.out⟩
                case measure =>
                  have h1 := HSM.out
                  have h2 := HSM0.out
                  have h3 := (HP.out.no rfl).1
                  simp only [yesN]
                  omega
        | false =>
          obtain ⟨x0, x1, hE, hbel, hsz0⟩ := HST.out w0 hwr0
          have hel := HHEL.out
          obtain ⟨eb, eo, rfl, c0, c1, hU, hV, hUV⟩ := edge_at hE HV.out hel
          have hdone := Lo.Lab.done HVF.out hL0 (hM0 rfl) hU hV
          have hlen := hL0.len
          have hei : (e : Int) < (es.length : Int) := by omega
          have he0 : (0 : Int) ≤ (e : Int) := by omega
          obtain ⟨w1, hw1⟩ : ∃ w1, w1 = w0.alloc (.cells #[.int .i64 (Lo.eU es e : Int), .int .i64 (Lo.eV es e : Int)] 46) := ⟨_, rfl⟩
          have hs1 : w1.heap.size = w0.heap.size + 1 := by rw [hw1]; simp
          have hblk1 : IntsBlk w1 (w.heap.size + 1) l0 := by rw [hw1]; exact hblk0.alloc _
          have hx : w1.heap[w0.heap.size]? = some (.cells #[.int .i64 (Lo.eU es e : Int), .int .i64 (Lo.eV es e : Int)] 46 (0, 0)) := by rw [hw1]; exact heap_alloc_new w0 _
          have hb1 : Below w.heap.size w w1 := by rw [hw1]; exact hbel.alloc hbel.size _
          obtain ⟨b0, b1, -⟩ := pair_cells hx
          have q0 := hblk1.cell (i := Lo.eU es e) (getD_of (-1) (by omega))
          have q1 := hblk1.cell (i := Lo.eV es e) (getD_of (-1) (by omega))
          have HDN : Hid ((l0.getD (Lo.eU es e) (-1) = l0.getD (Lo.eV es e) (-1)) ↔ Lo.Conn es s e (Lo.eU es e) (Lo.eV es e)) := hdone
          have cbl := block_lt_of_cell c0
          obtain ⟨U, hUe⟩ : ∃ U, Lo.eU es e = U := ⟨_, rfl⟩
          obtain ⟨V, hVe⟩ : ∃ V, Lo.eV es e = V := ⟨_, rfl⟩
          obtain ⟨zu, hzu⟩ : ∃ z, l0.getD (Lo.eU es e) (-1) = z := ⟨_, rfl⟩
          obtain ⟨zv, hzv⟩ : ∃ z, l0.getD (Lo.eV es e) (-1) = z := ⟨_, rfl⟩
          rw [hzu] at q0 HDN
          rw [hzv] at q1 HDN
          rw [hUe] at c0 q0 b0 hU hw1
          rw [hVe] at c1 q1 b1 hV hw1
          have u0 : (0 : Int) ≤ (U : Int) := by omega
          have u1 : (U : Int) < (k : Int) := by omega
          have v0 : (0 : Int) ≤ (V : Int) := by omega
          have v1 : (V : Int) < (k : Int) := by omega
          have HW1 := Nu.hid hw1
          have HB1 := Nu.hid hb1
          clear hL0 hM0 hblk0 hwr0 hsm0 hE hbel hdone hlen hw1 hblk1 hx hb1 hUe hVe hzu hzv hU hV hUV hel
          go_wp2_with fail
          rw [← HW1.out]
          by_cases hzz : zu = zv
          · have j2 : (zu != zv) = false := by simp [hzz]
            go_quiet (fail)
            go_wp2
            go_ret
            exact ⟨0, rfl, .inr ⟨rfl, HDN.out.1 hzz⟩, below_drewN HB1.out _⟩
          · have j2 : (zu != zv) = true := by simp [hzz]
            go_quiet (fail)
            go_wp2
            go_ret
            exact ⟨1, rfl, .inl ⟨rfl, fun h => hzz (HDN.out.2 h)⟩, below_drewN HB1.out _⟩
end
end Go.Proofs.Ytmgoahbloppdmaa

/-
  Edges and graphs that came in.
-/
namespace Go.Proofs.Ytmgoahbloppdmaa
open Go.ChangeShapes Go.WideShapes Go.ChangeAt Go.RowKit

theorem bytesEdge : Try.prog.bytesOf 46 = 16 := by kernel_rfl
theorem cellsGraph : Try.prog.cellsOf 24 = 2 := by kernel_rfl
theorem cellsEdges : Try.prog.cellsOf 22 = 1 := by kernel_rfl

section
variable {H : Type} {enc : TypeId × Value → H} {W : World} {base : Nat} {sp : Nat → Bool} {held : Bool}

/-- Two numbers, read. -/
def TwoInts (cs : List Value) : Prop := ∃ a b : Int, cs = [.int .i64 a, .int .i64 b] ∧ In64 (a, b)

theorem two_of_ints {fuel : Nat} {cs : List Value} {x y : DataW H × List MemPlace} (hl : cs.length = 2) (h0 : DataW.trod enc Try.prog W base sp held fuel 3 ((cs.drop 0).take 1) = some x) (h1 : DataW.trod enc Try.prog W base sp held fuel 3 ((cs.drop 1).take 1) = some y) : TwoInts cs := by
  match cs, hl with
  | [u, v], _ =>
    obtain ⟨a, e0, _, w0⟩ := DataW.trod_int Try.underlying3 h0
    obtain ⟨b, e1, _, w1⟩ := DataW.trod_int Try.underlying3 h1
    simp at e0 e1
    subst e0
    subst e1
    exact ⟨a, b, rfl, bounds_i64 w0, bounds_i64 w1⟩

theorem two_arr {e t : TypeId} (he : Try.prog.underlying e = some (.array 2 t)) (ce : Try.prog.cellsOf e = 2) (ht : t = 3) {fuel : Nat} {cs : List Value} {x : DataW H × List MemPlace} (h : DataW.trod enc Try.prog W base sp held fuel e cs = some x) : TwoInts cs := by
  subst ht
  obtain ⟨xs, m, _, _, hl, hx, hf⟩ := DataW.trod_array he h
  rw [ce] at hl
  match xs, hx with
  | [y0, y1], _ =>
    have g0 := hf 0 (by omega)
    have g1 := hf 1 (by omega)
    simp only [cellsIntK] at g0 g1
    exact two_of_ints hl g0 g1

theorem two_struct {e : TypeId} {f0 f1 : Field} (he : Try.prog.underlying e = some (.struct #[f0, f1])) (ce : Try.prog.cellsOf e = 2) (o0 : f0.offset = 0) (o1 : f1.offset = 1) (t0 : f0.type = 3) (t1 : f1.type = 3)
    {fuel : Nat} {cs : List Value} {x : DataW H × List MemPlace} (h : DataW.trod enc Try.prog W base sp held fuel e cs = some x) : TwoInts cs := by
  obtain ⟨xs, m, _, _, hl, hx, hf⟩ := DataW.trod_struct he h
  rw [ce] at hl
  match xs, hx with
  | [y0, y1], _ =>
    have g0 := hf 0 f0 rfl
    have g1 := hf 1 f1 rfl
    simp only [o0, o1, t0, t1, cellsIntK] at g0 g1
    exact two_of_ints hl g0 g1

theorem two_edge {fuel : Nat} {cs : List Value} {x : DataW H × List MemPlace} (h : DataW.trod enc Try.prog W base sp held fuel 46 cs = some x) : TwoInts cs := two_struct Try.underlying46 cellsEdge rfl rfl rfl rfl h

/-- A number and a list, read. -/
theorem num_list {e : TypeId} {f0 f1 : Field} (he : Try.prog.underlying e = some (.struct #[f0, f1])) (o0 : f0.offset = 0) (o1 : f1.offset = 1) (t0 : f0.type = 3) (t1 : f1.type = 22) (c1 : Try.prog.cellsOf 22 = 1)
    {fuel : Nat} {u v : Value} {x : DataW H × List MemPlace} (h : DataW.trod enc Try.prog W base sp held fuel e [u, v] = some x) :
    ∃ (m : Nat) (y0 y1 : DataW H × List MemPlace), DataW.trod enc Try.prog W base sp held m 3 [u] = some y0 ∧ DataW.trod enc Try.prog W base sp held m 22 [v] = some y1 ∧ x.1 = .agg [y0.1, y1.1] := by
  obtain ⟨xs, m, _, hxx, hl, hx, hf⟩ := DataW.trod_struct he h
  match xs, hx with
  | [y0, y1], _ =>
    have g0 := hf 0 f0 rfl
    have g1 := hf 1 f1 rfl
    simp only [o0, o1, t0, t1, cellsIntK, c1] at g0 g1
    exact ⟨m, y0, y1, by simpa using g0, by simpa using g1, by rw [hxx]; rfl⟩

/-- What is known of a list of pairs that came in. -/
structure PairsIn (w : World) (ao : Option Addr) (len cap : Nat) (qs : List (Int × Int)) : Prop where
  hlen : qs.length = len
  hat : EdgesAt w ao qs
  hnil : ao = none → qs = [] ∧ cap = 0
  hwf : ∀ (j : Nat) (p : Int × Int), qs[j]? = some p → In64 p
  hfit : len ≤ cap

theorem pairs_in {t e : TypeId} {fuel : Nat} {a : Option Addr} {len cap : Nat} {x : DataW H × List MemPlace} (ht : Try.prog.underlying t = some (.slice e)) (ce : Try.prog.cellsOf e = 2)
    (hel : ∀ (n : Nat) (cs : List Value) (y : DataW H × List MemPlace), DataW.trod enc Try.prog W base (fun _ => true) held n e cs = some y → TwoInts cs) (h : DataW.trod enc Try.prog W base (fun _ => true) held fuel t [.slice a len cap] = some x) :
    ∃ qs, PairsIn W a len cap qs ∧ ((x.1 = .nil ∧ qs = []) ∨ ∃ es rest, x.1 = .slice es rest ∧ len ≤ es.length) := by
  rcases Deep.open_slice ht h with ⟨hcs, hx⟩ | ⟨ad, l, c, m, n, D, Pl, hcs, _, hl, hm, hmm, rfl, hcell⟩
  · simp at hcs
    obtain ⟨rfl, rfl, rfl⟩ := hcs
    subst hx
    exact ⟨[], ⟨rfl, EdgesAt.nil _ _, fun _ => ⟨rfl, rfl⟩, fun j p hj => by simp at hj, Nat.le_refl _⟩, .inl ⟨rfl, rfl⟩⟩
  · simp at hcs
    obtain ⟨rfl, rfl, rfl⟩ := hcs
    have hmc : m = cap := by simpa using hmm
    have each : ∀ i, i < m → ∃ q : Int × Int, W.cell? (ad.add (i * 2)) = some (.int .i64 q.1) ∧ W.cell? (ad.add (i * 2 + 1)) = some (.int .i64 q.2) ∧ In64 q := fun i hi => by
      obtain ⟨cs', h1, h2⟩ := hcell i hi
      rw [ce] at h1
      obtain ⟨_, hlen, hc⟩ := World.cells?_some h1
      obtain ⟨u, v, rfl, hw⟩ := hel n cs' _ h2
      have e0 := hc 0 (by omega)
      have e1 := hc 1 (by omega)
      rw [Deep.add_add] at e0 e1
      exact ⟨(u, v), by simpa using e0, by simpa using e1, hw⟩
    obtain ⟨q, hq⟩ := Deep.choose_lt each
    refine ⟨(List.range len).map q, ⟨by simp, fun j p hj => ?_, fun h => (by cases h), fun j p hj => ?_, hl⟩, .inr ⟨_, _, rfl, by simp⟩⟩
    · have hi : j < len := by
        have := (List.getElem?_eq_some_iff.1 hj).1
        simpa using this
      simp [hi] at hj
      subst hj
      obtain ⟨c0, c1, _⟩ := hq j (by omega)
      obtain ⟨b, o, s⟩ := ad
      have hsp : s = none := by
        obtain ⟨c00, _⟩ := hq 0 (by omega)
        simpa [Addr.add] using World.cell?_spot c00
      subst hsp
      have ea : ∀ k, ((⟨b, o, none⟩ : Addr).add k) = ⟨b, o + k, none⟩ := fun k => by
        by_cases h0 : k = 0 <;> simp [Addr.add, h0]
      rw [ea] at c0 c1
      exact ⟨b, o, rfl, c0, by rw [← Nat.add_assoc] at c1; exact c1⟩
    · have hi : j < len := by
        have := (List.getElem?_eq_some_iff.1 hj).1
        simpa using this
      simp [hi] at hj
      subst hj
      exact (hq j (by omega)).2.2

end

set_option maxRecDepth 100000 in
/-- An edge that came in. -/
theorem edge_of_trod {H : Type} {enc : TypeId × Value → H} {W : World} {base : Nat} {v : Value} {d : DataW H} {p : List MemPlace} (hval : Value.okWide Try.prog W .any base 46 v)
    (h : DataW.Trod enc Try.prog W 0 (fun _ => true) true 46 v d p) : ∃ q : Int × Int, v = edgeVal q ∧ In64 q := by
  obtain ⟨cs, rfl, hcs⟩ := okWide_struct Try.underlying46 hval
  rw [cellsEdge] at hcs
  obtain ⟨fuel, hf⟩ := h
  obtain ⟨cl⟩ := cs
  match cl, hcs with
  | [u, v], _ =>
    obtain ⟨a, b, e, hw⟩ := two_edge hf
    simp [Value.cells] at e
    obtain ⟨rfl, rfl⟩ := e
    exact ⟨(a, b), rfl, hw⟩

set_option maxRecDepth 100000 in
/-- A graph that came in. -/
theorem graph_of_trod {H : Type} {enc : TypeId × Value → H} {W : World} {base : Nat} {v : Value} {d : DataW H} {p : List MemPlace} {ts : List TypeId} {ds : List (DataW H)} {j : Nat} (hval : Value.okWide Try.prog W .any base 24 v)
    (h : DataW.Trod enc Try.prog W 0 (fun _ => true) true 24 v d p) (hsz : (DataW.weightsEach Try.prog ts ds).all (· ≤ reachBytes) = true) (hts : ts[j]? = some 24) (hds : ds[j]? = some d) :
    ∃ (n : Int) (a : Option Addr) (cap : Nat) (qs : List (Int × Int)), v = .agg #[.int .i64 n, .slice a qs.length cap] ∧ (-9223372036854775808 ≤ n ∧ n ≤ 9223372036854775807) ∧ PairsIn W a qs.length cap qs ∧ qs.length * 16 ≤ 140737488351232 := by
  obtain ⟨cs, rfl, hcs⟩ := okWide_struct Try.underlying24 hval
  rw [cellsGraph] at hcs
  obtain ⟨fuel, hf⟩ := h
  obtain ⟨cl⟩ := cs
  match cl, hcs with
  | [u, v], _ =>
    obtain ⟨m, y0, y1, g0, g1, hxx⟩ := num_list Try.underlying24 rfl rfl rfl rfl cellsEdges hf
    obtain ⟨n, e0, hy0, w0⟩ := DataW.trod_int Try.underlying3 g0
    simp at e0
    subst e0
    have hsl : ∃ a len cap, v = .slice a len cap := by
      rcases Deep.open_slice Try.underlying22 g1 with ⟨hc, _⟩ | ⟨ad, l, c, _, _, _, _, hc, _⟩
      · simp at hc; exact ⟨_, _, _, hc⟩
      · simp at hc; exact ⟨_, _, _, hc⟩
    obtain ⟨a, len, cap, rfl⟩ := hsl
    obtain ⟨qs, hq, hd⟩ := pairs_in Try.underlying22 cellsEdge (fun n cs y hy => two_edge hy) g1
    have hql := hq.hlen
    subst hql
    refine ⟨n, a, cap, qs, rfl, bounds_i64 w0, hq, ?_⟩
    rcases hd with ⟨_, rfl⟩ | ⟨es, rest, hd, hle⟩
    · simp
    · have hde : d = .agg [y0.1, .slice es rest] := by
        rw [hd] at hxx
        exact hxx
      subst hde
      have hw := List.all_eq_true.1 hsz _ (DataW.weights_mem_each hts hds ((es.length + rest.length) * Try.prog.bytesOf 46) (by simp [DataW.weights, DataW.weightsEach, Try.underlying24, Try.underlying22]))
      rw [bytesEdge] at hw
      have hw2 : (es.length + rest.length) * 16 ≤ reachBytes := of_decide_eq_true hw
      simp only [reachBytes] at hw2
      omega

end Go.Proofs.Ytmgoahbloppdmaa
