/-
  The document's own Walk.
-/
import Derived.Test.YtponmjipbcmlhaaDfRReach
import Derived.Test.YtponmjipbcmlhaaDfFor
import Derived.Deep.RegionHeld3
import Derived.Deep.CutBlock
import Derived.Deep.CutRange
namespace Go.Proofs.Ytponmjipbcmlhaa
open Go.RowKit Go.Sort

theorem Try.infoBool : (Try.prog.info? 4).map (fun i => (i.zero, i.size, i.bytes)) = some (some (.bool false), 1, 1) := by kernel_rfl

namespace Df
section
variable {n : Nat} {es : List (Int × Int)} {s : St}

/-- At the end all are reached. -/
theorem Wk.all (hval : Si.Val n es) {i : Nat} (h : Wk n es i s) : i ≤ n → ∀ v, v < i → s.height v ≠ -1 := by
  induction h with
  | zero => intro _ v hv; omega
  | @pass i s h hv ih =>
    intro hi v hvi
    by_cases e : v = i
    · rw [e]; exact hv
    · exact ih (by omega) v (by omega)
  | @walk i k s s' h hv hr ih =>
    intro hi v hvi
    have b := (h.bd hval (by omega)).root (v := i) (by omega)
    have h1 : (s.reach i (-1) 0).height v ≠ -1 := by
      rw [height_reach (h.bd hval (by omega)) (by omega)]
      split
      · omega
      · exact ih (by omega) v (by omega)
    rw [hr.stays hval out_half b h1]
    exact h1

theorem rhei_all {r : Nat} (b : Bd n es r s) (h : ∀ v, v < n → s.height v ≠ -1) : rhei s = s.hei := by
  refine List.ext_getElem? fun v => ?_
  by_cases hv : v < n
  · rw [rhei_at b hv (h v hv)]
    exact (getD_of (-1) (by rw [b.lh]; exact hv)).symm
  · rw [List.getElem?_eq_none (by rw [rhei_len, b.lh]; omega), List.getElem?_eq_none (by rw [b.lh]; omega)]

/-- A root's height and parent are there already. -/
theorem root_par {r : Nat} (b : Bd n es r s) {v : Nat} (hv : v < n) (hh : s.height v = -1) : s.par.set v (-1) = s.par := by
  refine List.ext_getElem? fun u => ?_
  rw [List.getElem?_set]
  by_cases e : v = u
  · subst e
    rw [if_pos rfl, if_pos (by rw [b.lp]; exact hv), getD_of 0 (by rw [b.lp]; exact hv), b.hu v hv hh]
  · rw [if_neg e]
theorem root_hei {r : Nat} (b : Bd n es r s) {v : Nat} (hv : v < n) (hh : s.height v = -1) : (rhei s).set v 0 = rhei s := by
  refine List.ext_getElem? fun u => ?_
  rw [List.getElem?_set]
  by_cases e : v = u
  · subst e
    have hl : v < s.hei.length := by rw [b.lh]; exact hv
    rw [if_pos rfl, if_pos (by rw [rhei_len]; exact hl)]
    unfold rhei
    rw [List.getElem?_map, getD_of (-1) hl]
    have : s.hei.getD v (-1) = -1 := hh
    rw [this]
    rfl
  · rw [if_neg e]
end
end Df

/-- What the document's Walk answers. -/
def RWalkPost (n : Nat) (es : List (Int × Int)) (w : World) (e : Ending) (w' : World) : Prop :=
  ∃ f s, e = .returned (For.val f s) ∧ Df.Wk n es n s ∧ LstF w' f s ∧ Below w.heap.size w w'

/-- What is laid ahead of the walk: the lists, in blocks of their own. -/
def RMid (n m : Nat) (w wr : World) (p : Nat) : Prop :=
  ∃ gp gh gr, wr.heap[p]? = some (.cells #[.slice (some ⟨gp, 0, none⟩) n n, .slice (some ⟨gh, 0, none⟩) n n, .slice none 0 0, .slice (some ⟨gr, 0, none⟩) m m] 28 (0, 0)) ∧ IntsBlk wr gp (List.replicate n 0) ∧ IntsBlk wr gh (List.replicate n 0) ∧ IntsBlk wr gr (List.replicate m 0) ∧
    (w.heap.size ≤ p ∧ w.heap.size ≤ gp ∧ w.heap.size ≤ gh ∧ w.heap.size ≤ gr) ∧ (p ≠ gp ∧ p ≠ gh ∧ p ≠ gr ∧ gp ≠ gh ∧ gp ≠ gr ∧ gh ≠ gr) ∧ Below w.heap.size w wr

theorem bel_alloc {w V : World} (h : Below w.heap.size w V) (o : Obj) : Below w.heap.size w (V.alloc o) := h.alloc h.size o
theorem bel_drew {w V : World} (h : Below w.heap.size w V) : Below w.heap.size w V.drew := h.drew

theorem ints_drew {w : World} {g : Nat} {l : List Int} (h : IntsBlk w g l) : IntsBlk w.drew g l := h
theorem blk_drew {w : World} {g : Nat} {o : Obj} (h : w.heap[g]? = some o) : w.drew.heap[g]? = some o := h
theorem blk_alloc {w : World} {g : Nat} {o o' : Obj} (h : w.heap[g]? = some o) : (w.alloc o').heap[g]? = some o := (Below.heap_alloc w o' g (lt_of_block h)).trans h

theorem made_bools (n : Nat) : (madeCells #[.bool false] n) = (List.replicate n (Value.bool false)).toArray := by
  apply Array.ext'
  rw [toList_madeCells_one]

theorem rmid_of {n m p gp gh gr : Nat} {w wr : World} (h1 : wr.heap[p]? = some (.cells #[.slice (some ⟨gp, 0, none⟩) n n, .slice (some ⟨gh, 0, none⟩) n n, .slice none 0 0, .slice (some ⟨gr, 0, none⟩) m m] 28 (0, 0))) (h2 : IntsBlk wr gp (List.replicate n 0)) (h3 : IntsBlk wr gh (List.replicate n 0)) (h4 : IntsBlk wr gr (List.replicate m 0))
    (h5 : w.heap.size ≤ p ∧ w.heap.size ≤ gp ∧ w.heap.size ≤ gh ∧ w.heap.size ≤ gr) (h6 : p ≠ gp ∧ p ≠ gh ∧ p ≠ gr ∧ gp ≠ gh ∧ gp ≠ gr ∧ gh ≠ gr) (h7 : Below w.heap.size w wr) : RMid n m w wr p := ⟨gp, gh, gr, h1, h2, h3, h4, h5, h6, h7⟩

theorem made_blk' {W : World} {k M : Nat} (h : W.heap.size = k) : IntsBlk (W.alloc (.cells (madeCells #[.int .i64 0] M) 3)) k (List.replicate M 0) := by
  subst h
  unfold IntsBlk
  rw [heap_alloc_new, ← made_zeros]

/-- How long the lists of a walk are. -/
theorem walk_len' {n : Nat} {es : List (Int × Int)} {s : Df.St} (hv : Si.Val n es) (h : Df.Wk n es n s) : s.par.length ≤ 17592186043904 ∧ s.hei.length ≤ 17592186043904 ∧ s.ord.length ≤ 17592186043904 ∧ s.ori.length ≤ 17592186043904 := by
  have b := h.bd hv (Nat.le_refl _)
  have h1 := b.lp
  have h2 := b.lh
  have h3 := b.lo
  have h4 := b.hr
  have h5 := hv.hi
  have h6 := hv.few
  omega

theorem IntsAt.put4 {w : World} {R : Nat} {a b c d : Value} {ao : Option Addr} {l : List Int} (h : IntsAt w ao l) (hf : ∀ x, ao = some x → x.block ≠ R) : IntsAt (put4 w R a b c d) ao l := fun j x hj => by
  obtain ⟨b', o, e, hc⟩ := h j x hj
  refine ⟨b', o, e, ?_⟩
  rw [← hc]
  exact World.cell?_of_block (a := ⟨b', o + j, none⟩) (put4_other (hf _ e) a b c d)

theorem LstF.put4 {w : World} {R g1 g2 g4 c1 c2 c3 c4 : Nat} {a b c d : Value} {ao : Option Addr} {s : Df.St} (h : LstF w ⟨some ⟨g1, 0, none⟩, some ⟨g2, 0, none⟩, ao, some ⟨g4, 0, none⟩, c1, c2, c3, c4⟩ s) (h1 : g1 ≠ R) (h2 : g2 ≠ R) (h4 : g4 ≠ R) (h3 : ∀ x, ao = some x → x.block ≠ R) : LstF (Go.Proofs.Ytponmjipbcmlhaa.put4 w R a b c d) ⟨some ⟨g1, 0, none⟩, some ⟨g2, 0, none⟩, ao, some ⟨g4, 0, none⟩, c1, c2, c3, c4⟩ s :=
  ⟨⟨h.l1.len, h.l1.ints.put4 (fun x hx => by cases hx; exact h1), h.l1.none⟩, ⟨h.l2.len, h.l2.ints.put4 (fun x hx => by cases hx; exact h2), h.l2.none⟩, ⟨h.l3.len, h.l3.ints.put4 h3, h.l3.none⟩, ⟨h.l4.len, h.l4.ints.put4 (fun x hx => by cases hx; exact h4), h.l4.none⟩, h.n1, h.n2, h.n3, h.n4⟩

set_option maxRecDepth 100000 in
set_option maxHeartbeats 16000000 in
theorem rwalk_any (n : Nat) (ao : Option Addr) (ca : Nat) (es : List (Int × Int)) (w : World) (he : EdgesAt w ao es) (hv : Si.Val n es) :
    Calls Try.prog 13 #[.agg #[.int .i64 (n : Int), .slice ao es.length ca]] w (RWalkPost n es w) := by
  obtain ⟨i0, hi, hz0, hz1, hz2⟩ := info_parts Try.infoNum
  obtain ⟨i1, hi1, hy0, hy1, hy2⟩ := info_parts Try.infoBool
  have hfew := hv.few
  have hhi := hv.hi
  obtain ⟨W, hW⟩ : ∃ W, W = (w.alloc (.cells #[.int .i64 (n : Int), .slice ao es.length ca] 24)).alloc (.cells #[.slice none 0 0, .slice none 0 0, .slice none 0 0, .slice none 0 0] 28) := ⟨_, rfl⟩
  have hB0 : Below w.heap.size w W := by rw [hW]; exact ((Below.refl _ _).alloc (Nat.le_refl _) _).alloc (by simp) _
  have hsz : W.heap.size = w.heap.size + 2 := by rw [hW]; simp
  have g1 : W.heap[w.heap.size]? = some (.cells #[.int .i64 (n : Int), .slice ao es.length ca] 24 (0, 0)) := by
    rw [hW, Below.heap_alloc _ _ _ (by simp)]
    exact heap_alloc_new w _
  have g2 : W.heap[w.heap.size + 1]? = some (.cells #[.slice none 0 0, .slice none 0 0, .slice none 0 0, .slice none 0 0] 28 (0, 0)) := by
    rw [hW]
    exact alloc_at (by simp)
  have HOUT := Nu.hid (rout_any n ao ca es W (he.later hB0) hv)
  obtain ⟨x0, x1, -⟩ := pair_cells g1
  rw [hW] at x0 x1
  have HE := Nu.hid (he.later hB0)
  have HV := Nu.hid hv
  have HB0 := Nu.hid hB0
  have HG1 := Nu.hid g1
  have HG2 := Nu.hid g2
  have HWW := Nu.hid hW
  have hmkI : ∀ V (k : Nat), k ≤ 8388608 → (Instr.makeSlice 26 (.int .i64 (k : Int)) (.int .i64 (k : Int))).run Try.prog V = .ok (.slice (some ⟨V.heap.size, 0, none⟩) k k) (V.alloc (.cells (madeCells #[.int .i64 0] k) 3)) := fun V k hk => by
    have := run_make (P := Try.prog) V 26 3 i0 (.int .i64 0) Try.underlying26 hi hz0 .i64 .i64 (k : Int) (k : Int) (by omega) (Int.le_refl _) (by rw [hz2]; omega) (by omega)
    rw [this, hz1]
    simp [Value.cells]
  have hmkn := fun V => hmkI V n (by omega)
  have hmkm := fun V => hmkI V es.length (by omega)
  have hmkb : ∀ V, (Instr.makeSlice 52 (.int .i64 (n : Int)) (.int .i64 (n : Int))).run Try.prog V = .ok (.slice (some ⟨V.heap.size, 0, none⟩) n n) (V.alloc (.cells (Array.replicate n (Value.bool false)) 4)) := fun V => by
    have := run_make (P := Try.prog) V 52 4 i1 (.bool false) Try.underlying52 hi1 hy0 .i64 .i64 (n : Int) (n : Int) (by omega) (Int.le_refl _) (by rw [hy2]; omega) (by omega)
    rw [this, hy1]
    simp [Value.cells, made_bools]
  clear he hv hB0 g1 g2 hW hmkI
  go_enter Try.func13, Try.ntmps13
  go_wp2_with (go_at_call 26; rw [← HWW.out]; refine HOUT.out.mono ?_; rintro e w2 ⟨G, vs, rfl, hvl, hrows, hG, hb2⟩; refine Hid.out ?_)
  refine Nu.hid ?_
  have k1 := (hb2.block w.heap.size (by omega)).trans HG1.out
  have k2 := (hb2.block (w.heap.size + 1) (by omega)).trans HG2.out
  have hs2 := hb2.size
  have HB2 := Nu.hid (HB0.out.trans (hb2.mono HB0.out.size))
  have HE2 := Nu.hid (HE.out.later hb2)
  have HROWS := Nu.hid hrows
  have HVL := Nu.hid hvl
  have HK1 := Nu.hid k1
  have HK2 := Nu.hid k2
  obtain ⟨y0, y1, -⟩ := pair_cells k1
  clear hrows hvl hG hb2 k1 k2 x0 x1 HOUT HB0 HE HG1 HG2
  go_upto_region 2 with fail
  go_cut [4] from 11 to 21 (fun x wr => ∃ p : Nat, x = .pointer (some ⟨p, 0, none⟩) ∧ RMid n es.length w2 wr p)
  case first =>
    have HS : Hid (∀ V, Below w2.heap.size w2 V → V.cell? ⟨w.heap.size, 0, none⟩ = some (.int .i64 (n : Int)) ∧ V.cell? ⟨w.heap.size, 1, none⟩ = some (.slice ao es.length ca)) := fun V hV => by
      obtain ⟨y0, y1, -⟩ := pair_cells ((hV.block w.heap.size (by omega)).trans HK1.out)
      exact ⟨y0, y1⟩
    go_region_held3 (fun V => V.cell? ⟨w.heap.size, 0, none⟩ = some (.int .i64 (n : Int)) ∧ V.cell? ⟨w.heap.size, 1, none⟩ = some (.slice ao es.length ca)) (exact HS.out _ (by repeat (first | exact Below.refl _ _ | with_reducible refine bel_drew ?_ | with_reducible refine bel_alloc ?_ _))) (fail)
    all_goals
      clear HS hmkn hmkm hmkb
      go_wp2_with fail
      go_meet
      refine ⟨_, rfl, ?_⟩
      apply rmid_of
      · repeat (first | exact alloc_at (by simp) | with_reducible refine blk_drew ?_ | with_reducible refine blk_alloc ?_)
      · repeat (first | (refine made_blk' ?_; simp; done) | with_reducible refine ints_drew ?_ | with_reducible refine IntsBlk.alloc ?_ _)
      · repeat (first | (refine made_blk' ?_; simp; done) | with_reducible refine ints_drew ?_ | with_reducible refine IntsBlk.alloc ?_ _)
      · repeat (first | (refine made_blk' ?_; simp; done) | with_reducible refine ints_drew ?_ | with_reducible refine IntsBlk.alloc ?_ _)
      · refine ⟨?_, ?_, ?_, ?_⟩ <;> omega
      · refine ⟨?_, ?_, ?_, ?_, ?_, ?_⟩ <;> omega
      · repeat (first | exact Below.refl _ _ | with_reducible refine bel_drew ?_ | with_reducible refine bel_alloc ?_ _)
  case rest =>
    obtain ⟨p, rfl, gp, gh, gr, hblk, ip, ih, ir, ⟨b1, b2, b3, b4⟩, ⟨d1, d2, d3, d4, d5, d6⟩, hbel⟩ := hcut
    have hsc := hbel.size
    have y0 := (pair_cells ((hbel.block w.heap.size (by omega)).trans HK1.out)).1
    have hlp := lt_of_block hblk
    have hl1 := ip.lt
    have hl2 := ih.lt
    have hl3 := ir.lt
    -- the list of what is seen
    obtain ⟨w3, hw3⟩ : ∃ w3, w3 = wc.alloc (.cells (Array.replicate n (Value.bool false)) 4) := ⟨_, rfl⟩
    have hb3 : Below wc.heap.size wc w3 := by rw [hw3]; exact (Below.refl _ _).alloc (Nat.le_refl _) _
    have hrw : RW w2 w3 p gp gh gr wc.heap.size (.slice none 0 0) n es.length (List.replicate n 0) (List.replicate n 0) [] (List.replicate es.length 0) (List.replicate n false) := by
      refine ⟨hbel.trans (hb3.mono hsc), (hb3.block p hlp).trans hblk, ip.later hb3, ih.later hb3, ir.later hb3, ?_, .nil _ _, ⟨b1, b2, b3, b4, hsc⟩, ⟨d1, d2, d3, by omega, d4, d5, by omega, d6, by omega, by omega⟩, by simp [Value.ownBlock]⟩
      unfold BoolsBlk
      rw [hw3, heap_alloc_new, List.map_replicate]
      simp
    have HRW := Nu.hid hrw
    have HW3 := Nu.hid hw3
    have HCELLS : Hid (∀ V, Below w2.heap.size w2 V → V.cell? ⟨w.heap.size, 0, none⟩ = some (.int .i64 (n : Int)) ∧ V.cell? ⟨w.heap.size, 1, none⟩ = some (.slice ao es.length ca)) := fun V hV => by
      obtain ⟨y0, y1, -⟩ := pair_cells ((hV.block w.heap.size (by omega)).trans HK1.out)
      exact ⟨y0, y1⟩
    clear hblk ip ih ir hbel hb3 hrw hw3 b1 b2 b3 b4 d1 d2 d3 d4 d5 d6 hmkn hmkm y1
    go_wp2
    rw [← HW3.out]
    clear hmkb y0
    go_loopw [6] (fun c wr => ∃ (i : Nat) (P : List Int), i ≤ n ∧ c = .int .i64 i ∧ P.length = n ∧ (∀ v, v < i → P[v]? = some (-1)) ∧ RW w2 wr p gp gh gr wc.heap.size (.slice none 0 0) n es.length P (List.replicate n 0) [] (List.replicate es.length 0) (List.replicate n false)) (fun c _ => n - (intOf c).toNat)
    case atStart => exact ⟨0, _, Nat.zero_le _, rfl, by simp, fun v hv => (by omega), HRW.out⟩
    case round =>
      obtain ⟨i, P, hin, rfl, hPl, hP, hr⟩ := hrel
      obtain ⟨y0, y1⟩ := HCELLS.out wr hr.bel
      by_cases hlt : i < n
      · have hlti : (i : Int) < (n : Int) := by omega
        have hk0 : (0 : Int) ≤ (i : Int) := by omega
        obtain ⟨q0, -, -, -, -⟩ := hr.cells
        have c0 := hr.ip.cell (getD_of 0 (by omega : i < P.length))
        have f0 := hr.ip.free i
        have HN := Nu.hid (hr.setPar i (-1))
        have HP := Nu.hid hP
        clear hP hr
        go_wp2
        go_roundw
        case rel =>
          refine ⟨i + 1, P.set i (-1), by omega, by go_num, by simp [hPl], fun v hv => ?_, HN.out⟩
          rw [List.getElem?_set]
          by_cases e : i = v
          · subst e; rw [if_pos rfl, if_pos (by omega)]
          · rw [if_neg e]; exact HP.out v (by omega)
        case measure => simp [intOf]; omega
      · have hd : ¬ ((i : Int) < (n : Int)) := by omega
        have hPe : P = List.replicate n (-1) := by
          refine List.ext_getElem? fun v => ?_
          by_cases hv : v < n
          · rw [hP v (by omega), List.getElem?_replicate, if_pos hv]
          · rw [List.getElem?_eq_none (by omega), List.getElem?_eq_none (by simp; omega)]
        subst hPe
        have HR1 := Nu.hid hr
        clear hP hr hPl
        go_wp2
        clear y0 y1 hd hlt
        go_loopw [7] (fun c wr => ∃ (i : Nat) (R : List Int), i ≤ es.length ∧ c = .int .i64 i ∧ R.length = es.length ∧ (∀ v, v < i → R[v]? = some (-1)) ∧ RW w2 wr p gp gh gr wc.heap.size (.slice none 0 0) n es.length (List.replicate n (-1)) (List.replicate n 0) [] R (List.replicate n false)) (fun c _ => es.length - (intOf c).toNat)
        case atStart => exact ⟨0, _, Nat.zero_le _, rfl, by simp, fun v hv => (by omega), HR1.out⟩
        case round =>
          obtain ⟨i, R, hin, rfl, hRl, hR, hr⟩ := hrel
          obtain ⟨y0, y1⟩ := HCELLS.out wr hr.bel
          by_cases hlt : i < es.length
          · have hlti : (i : Int) < (es.length : Int) := by omega
            have hk0 : (0 : Int) ≤ (i : Int) := by omega
            obtain ⟨-, -, -, q3, -⟩ := hr.cells
            have c0 := hr.ir.cell (getD_of 0 (by omega : i < R.length))
            have f0 := hr.ir.free i
            have HN := Nu.hid (hr.setOri i (-1))
            have HP := Nu.hid hR
            clear hR hr
            go_wp2
            go_roundw
            case rel =>
              refine ⟨i + 1, R.set i (-1), by omega, by go_num, by simp [hRl], fun v hv => ?_, HN.out⟩
              rw [List.getElem?_set]
              by_cases e : i = v
              · subst e; rw [if_pos rfl, if_pos (by omega)]
              · rw [if_neg e]; exact HP.out v (by omega)
            case measure => simp [intOf]; omega
          · have hd : ¬ ((i : Int) < (es.length : Int)) := by omega
            have hRe : R = List.replicate es.length (-1) := by
              refine List.ext_getElem? fun v => ?_
              by_cases hv : v < es.length
              · rw [hR v (by omega), List.getElem?_replicate, if_pos hv]
              · rw [List.getElem?_eq_none (by omega), List.getElem?_eq_none (by simp; omega)]
            subst hRe
            have HR2 := Nu.hid hr
            clear hR hr hRl
            go_wp2
            clear y0 y1 hd hlt
            go_loopw [8] (fun c wr => ∃ (i : Nat) (s : Df.St) (ov : Value), i ≤ n ∧ c = .int .i64 i ∧ Df.Wk n es i s ∧ RW w2 wr p gp gh gr wc.heap.size ov n es.length s.par (Df.rhei s) s.ord s.ori (Df.rseen s)) (fun c _ => n - (intOf c).toNat)
            case atStart =>
              refine ⟨0, Df.St.start n es.length, .slice none 0 0, Nat.zero_le _, rfl, .zero, ?_⟩
              have e1 : Df.rhei (Df.St.start n es.length) = List.replicate n 0 := by simp [Df.rhei, Df.St.start]
              have e2 : Df.rseen (Df.St.start n es.length) = List.replicate n false := by simp [Df.rseen, Df.St.start]
              rw [e1, e2]
              exact HR2.out
            case round =>
              obtain ⟨i, s, ov, hin, rfl, hwk, hr⟩ := hrel
              obtain ⟨y0, y1⟩ := HCELLS.out wr hr.bel
              have hbd := hwk.bd HV.out hin
              by_cases hlt : i < n
              · have hlti : (i : Int) < (n : Int) := by omega
                have hk0 : (0 : Int) ≤ (i : Int) := by omega
                have z0 := hr.is.cell (Df.rseen_at hbd hlt)
                by_cases hh : s.height i = -1
                · have hb : (s.height i != -1) = false := by simpa using hh
                  rw [hb] at z0
                  obtain ⟨k, s2, hR, _⟩ := Df.total HV.out (s.reach i (-1) 0).left (Cs.out es i (2 * es.length)) (s.reach i (-1) 0) (Nat.le_refl _) (hbd.root hlt) Df.out_half
                  have hr' : RW w2 wr p gp gh gr wc.heap.size ov n es.length (s.reach i (-1) 0).par (Df.rhei (s.reach i (-1) 0)) s.ord (s.reach i (-1) 0).ori (Df.rseen s) := by
                    rw [Df.rhei_reach s i (-1) 0 (by decide), Df.root_hei hbd hlt hh]
                    show RW w2 wr p gp gh gr wc.heap.size ov n es.length (s.par.set i (-1)) (Df.rhei s) s.ord s.ori (Df.rseen s)
                    rw [Df.root_par hbd hlt hh]
                    exact hr
                  have hcall := rreach_any (r := i + 1) (ca := ca) HE2.out HV.out HROWS.out HVL.out (by omega) k (s.reach i (-1) 0) s2 i ov s.ord (Df.rseen s) wr hR (hbd.root hlt) hlt (by rw [Df.height_reach hbd hlt, if_pos rfl]; decide) rfl (Df.rseen_reach s i (-1) 0 (by decide)).symm (by rw [Df.rseen_len]; exact hbd.lh) hr'
                  have HCALL := Nu.hid hcall
                  have HWK : Hid (Df.Wk n es (i + 1) s2) := .walk hwk hh hR
                  clear hcall hr' hR hb hwk hr hbd hh
                  go_wp2_with (go_at_call 27; refine HCALL.out.mono ?_; rintro e w5 ⟨rfl, ov5, h5, _, _⟩; have H5 := Nu.hid h5; clear h5)
                  go_roundw
                  case rel => exact ⟨i + 1, s2, ov5, by omega, by go_num, HWK.out, H5.out⟩
                  case measure => simp [intOf]; omega
                · have hb : (s.height i != -1) = true := by simpa using hh
                  rw [hb] at z0
                  have HWK : Hid (Df.Wk n es (i + 1) s) := .pass hwk hh
                  have H5 := Nu.hid hr
                  clear hb hwk hr hbd hh
                  go_wp2
                  go_roundw
                  case rel => exact ⟨i + 1, s, ov, by omega, by go_num, HWK.out, H5.out⟩
                  case measure => simp [intOf]; omega
              · obtain rfl : i = n := by omega
                have hd : ¬ ((i : Int) < (i : Int)) := by omega
                rw [Df.rhei_all hbd (hwk.all HV.out hin)] at hr
                obtain ⟨q0, q1, q2, q3, -⟩ := hr.cells
                have hk3 := (hr.bel.block (w.heap.size + 1) (by omega)).trans HK2.out
                obtain ⟨k0, k1, k2, k3, kf⟩ := four_cells hk3
                obtain ⟨ao3, cap3, hov, hint3, _⟩ := hr.ow.form
                have hlen := walk_len' HV.out hwk
                have hnil3 : ao3 = none → s.ord.length = 0 ∧ cap3 = 0 := fun e => by
                  subst e
                  rcases hr.ow.2 with ⟨h, h0⟩ | ⟨g, c, cur, h, _⟩
                  · rw [hov] at h
                    injection h with _ _ e3
                    exact ⟨h0, e3⟩
                  · rw [hov] at h; cases h
                subst hov
                have hl1 : LstF wr ⟨some ⟨gp, 0, none⟩, some ⟨gh, 0, none⟩, ao3, some ⟨gr, 0, none⟩, s.par.length, s.hei.length, cap3, s.ori.length⟩ s := ⟨hr.ip.lst rfl, hr.ih.lst rfl, ⟨rfl, hint3, hnil3⟩, hr.ir.lst rfl, hlen.1, hlen.2.1, hlen.2.2.1, hlen.2.2.2⟩
                have hbz := below_put4 (HB2.out.trans (hr.bel.mono HB2.out.size)) (R := w.heap.size + 1) (by omega) (.slice (some ⟨gp, 0, none⟩) i i) (.slice (some ⟨gh, 0, none⟩) i i) (.slice ao3 s.ord.length cap3) (.slice (some ⟨gr, 0, none⟩) es.length es.length)
                have hlo := hr.lo
                have hbl : ∀ x, ao3 = some x → w2.heap.size ≤ x.block := fun x hx => by
                  obtain ⟨_, _, e, _, h⟩ := hr.ow.form
                  cases e
                  exact (h x hx).1
                have hl2 : LstF (put4 wr (w.heap.size + 1) (.slice (some ⟨gp, 0, none⟩) i i) (.slice (some ⟨gh, 0, none⟩) i i) (.slice ao3 s.ord.length cap3) (.slice (some ⟨gr, 0, none⟩) es.length es.length)) ⟨some ⟨gp, 0, none⟩, some ⟨gh, 0, none⟩, ao3, some ⟨gr, 0, none⟩, s.par.length, s.hei.length, cap3, s.ori.length⟩ s := hl1.put4 (by omega) (by omega) (by omega) fun x hx => by have := hbl x hx; omega
                obtain ⟨R0, R1, R2, R3, -⟩ := four_cells (put4_heap hk3 (.slice (some ⟨gp, 0, none⟩) i i) (.slice (some ⟨gh, 0, none⟩) i i) (.slice ao3 s.ord.length cap3) (.slice (some ⟨gr, 0, none⟩) es.length es.length))
                have H0 := Nu.hid R0
                have H1 := Nu.hid R1
                have H2 := Nu.hid R2
                have H3 := Nu.hid R3
                have HL2 := Nu.hid hl2
                have HBZ := Nu.hid hbz
                have HWK := Nu.hid hwk
                have HN1 := Nu.hid hbd.lp
                have HN2 := Nu.hid hbd.lh
                have HN4 := Nu.hid hbd.lo
                unfold put4 at H0 H1 H2 H3 HL2 HBZ
                clear hr hk3 hl1 hl2 hbz hbl hnil3 hint3 hlen hwk R0 R1 R2 R3 hbd
                go_wp2
                refine bodyPost_ret (v := .agg #[.slice (some ⟨gp, 0, none⟩) i i, .slice (some ⟨gh, 0, none⟩) i i, .slice ao3 s.ord.length cap3, .slice (some ⟨gr, 0, none⟩) es.length es.length]) (by simp [results, Try.results13, go_sem, H0.out, H1.out, H2.out, H3.out]) rfl ?_
                refine ⟨⟨some ⟨gp, 0, none⟩, some ⟨gh, 0, none⟩, ao3, some ⟨gr, 0, none⟩, s.par.length, s.hei.length, cap3, s.ori.length⟩, s, ?_, HWK.out, HL2.out, HBZ.out⟩
                show _ = Ending.returned (.agg #[.slice (some ⟨gp, 0, none⟩) s.par.length s.par.length, .slice (some ⟨gh, 0, none⟩) s.hei.length s.hei.length, .slice ao3 s.ord.length cap3, .slice (some ⟨gr, 0, none⟩) s.ori.length s.ori.length])
                rw [HN1.out, HN2.out, HN4.out]

end Go.Proofs.Ytponmjipbcmlhaa
