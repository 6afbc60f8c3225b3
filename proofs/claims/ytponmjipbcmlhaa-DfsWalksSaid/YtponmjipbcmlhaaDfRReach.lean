/-
  The document's own 'reach', a call that calls itself.
-/
import Derived.Test.YtponmjipbcmlhaaDfRW
import Derived.BigRegion
namespace Go.Proofs.Ytponmjipbcmlhaa
open Go.RowKit Go.Sort

namespace Df
section
variable {n r : Nat} {es : List (Int × Int)} {s s' : St} {h u v : Nat}

theorem height_go (b : Bd n es r s) (hval : Si.Val n es) (hl : h < 2 * es.length) (hw : s.dir (h / 2) = -1) (u : Nat) : (s.go es h).height u = if u = Cs.to es h then s.height (Cs.fr es h) + 1 else s.height u :=
  height_reach (b.mark hl hw) (Cs.half_lt hval hl).2 _ _ u

/-- What was reached stays so. -/
theorem R.stays {k : Nat} {L : List Nat} (hval : Si.Val n es) (h : R es k s L s') : (∀ x ∈ L, x < 2 * es.length) → Bd n es r s → s.height u ≠ -1 → s'.height u = s.height u := by
  induction h with
  | nil s => exact fun _ _ _ => rfl
  | old hw hr ih => exact fun hl b hu => ih (fun x hx => hl x (List.mem_cons_of_mem _ hx)) b hu
  | back hw hv hr ih => exact fun hl b hu => ih (fun x hx => hl x (List.mem_cons_of_mem _ hx)) (b.mark (hl _ List.mem_cons_self) hw) hu
  | @tree j k s s1 s' x L hw hv h1 h2 ih1 ih2 =>
    intro hl b hu
    have hh := hl _ List.mem_cons_self
    have b1 := b.go hval hh hw
    have e : (s.go es x).height u = s.height u := by
      rw [height_go b hval hh hw, if_neg]
      intro e
      rw [e] at hu
      exact hu hv
    have h3 := ih1 out_half b1 (by rw [e]; exact hu)
    have h4 := ih2 (fun y hy => hl y (List.mem_cons_of_mem _ hy)) (h1.bd hval out_half b1) (by rw [h3, e]; exact hu)
    rw [h4, h3, e]

theorem rhei_at (b : Bd n es r s) (hv : v < n) (hh : s.height v ≠ -1) : (rhei s)[v]? = some (s.height v) := by
  have hl : v < s.hei.length := by rw [b.lh]; exact hv
  have e : s.hei[v] = s.height v := by
    unfold St.height
    rw [List.getD_eq_getElem?_getD, List.getElem?_eq_getElem hl]
    rfl
  unfold rhei
  rw [List.getElem?_map, List.getElem?_eq_getElem hl, e, Option.map_some, if_neg hh]
theorem rseen_at (b : Bd n es r s) (hv : v < n) : (rseen s)[v]? = some (s.height v != -1) := by
  have hl : v < s.hei.length := by rw [b.lh]; exact hv
  have e : s.hei[v] = s.height v := by
    unfold St.height
    rw [List.getD_eq_getElem?_getD, List.getElem?_eq_getElem hl]
    rfl
  unfold rseen
  rw [List.getElem?_map, List.getElem?_eq_getElem hl, e]
  rfl
theorem rhei_len (s : St) : (rhei s).length = s.hei.length := by simp [rhei]
theorem rseen_len (s : St) : (rseen s).length = s.hei.length := by simp [rseen]
theorem rhei_reach (s : St) (v : Nat) (x y : Int) (hy : y ≠ -1) : rhei (s.reach v x y) = (rhei s).set v y := by
  unfold rhei St.reach
  dsimp only
  rw [List.map_set, if_neg hy]
theorem rseen_reach (s : St) (v : Nat) (x y : Int) (hy : y ≠ -1) : rseen (s.reach v x y) = (rseen s).set v true := by
  unfold rseen St.reach
  dsimp only
  rw [List.map_set]
  congr 1
  simpa using hy
end
end Df

/-- What 'reach' does. -/
def RRPost (w0 : World) (F gp gh gr gs : Nat) (ov : Value) (n m : Nat) (s' : Df.St) (w : World) (e : Ending) (w' : World) : Prop :=
  e = .returned (.tuple #[]) ∧ ∃ ov', RW w0 w' F gp gh gr gs ov' n m s'.par (Df.rhei s') s'.ord s'.ori (Df.rseen s') ∧ (ov'.ownBlock = ov.ownBlock ∨ ∃ g, ov'.ownBlock = some g ∧ w.heap.size ≤ g) ∧ Wrote (WrS F gp gh gr gs ov) w w'

/-- The loop of 'reach' when i half-edges have been looked at. -/
structure RLoop (w0 w : World) (F gp gh gr gs : Nat) (ov : Value) (n r k v i : Nat) (es : List (Int × Int)) (s' : Df.St) (ao : Option Addr) (ca : Nat) (wr : World) (s : Df.St) (kk : Nat) (ov' : Value) : Prop where
  run : Df.R es kk s ((Cs.out es v (2 * es.length)).drop i) s'
  few : kk ≤ k
  bd : Df.Bd n es r s
  here : s.height v ≠ -1
  rw_ : RW w0 wr F gp gh gr gs ov' n es.length s.par (Df.rhei s) s.ord s.ori (Df.rseen s)
  box : wr.heap[w.heap.size]? = some (.cells #[.int .i64 (n : Int), .slice ao es.length ca] 24 (0, 0))
  far : ov'.ownBlock ≠ some w.heap.size
  wrote : Wrote (WrS F gp gh gr gs ov) w wr
  at_ : ov'.ownBlock = ov.ownBlock ∨ ∃ g, ov'.ownBlock = some g ∧ w.heap.size ≤ g

theorem WrS.old {w0 w : World} {F gp gh gr gs : Nat} {ov : Value} {n m : Nat} {P H O R : List Int} {S : List Bool} (h : RW w0 w F gp gh gr gs ov n m P H O R S) {b : Nat} (hb : WrS F gp gh gr gs ov b) : b < w.heap.size := by
  rcases hb with rfl | rfl | rfl | rfl | rfl | hb
  · exact h.lt
  · exact h.ip.lt
  · exact h.ih.lt
  · exact h.ir.lt
  · exact h.is.lt
  · exact (h.ow.lt hb).2

theorem tdiv2 {h jh : Nat} (e : h / 2 = jh) : (h : Int).tdiv 2 = (jh : Int) := by rw [Int.tdiv_eq_ediv_of_nonneg (by omega)]; omega

section
variable {w0 : World} {F gp gh gr gs : Nat} {n r : Nat} {es : List (Int × Int)} {ao : Option Addr} {ca G : Nat} {vs : List Value}

set_option maxRecDepth 100000 in
set_option maxHeartbeats 16000000 in
theorem rreach_any (hE : EdgesAt w0 ao es) (hV : Si.Val n es) (hR : RowsO w0 G vs es (2 * es.length)) (hvl : vs.length = n) (hr : r ≤ 1048576) :
    ∀ (k : Nat) (s1 s' : Df.St) (v : Nat) (ov : Value) (O : List Int) (S : List Bool) (w : World), Df.R es k s1 (Cs.out es v (2 * es.length)) s' → Df.Bd n es r s1 → v < n → s1.height v ≠ -1 → s1.ord = O ++ [(v : Int)] → S.set v true = Df.rseen s1 → S.length = n →
      RW w0 w F gp gh gr gs ov n es.length s1.par (Df.rhei s1) O s1.ori S →
      Calls Try.prog 27 #[.agg #[.int .i64 (n : Int), .slice ao es.length ca], .slice (some ⟨G, 0, none⟩) n n, .pointer (some ⟨F, 0, none⟩), .slice (some ⟨gs, 0, none⟩) n n, .int .i64 (v : Int)] w (RRPost w0 F gp gh gr gs ov n es.length s' w) := by
  intro k
  induction k using Nat.strongRecOn with
  | _ k ih =>
  intro s1 s' v ov O S w hrun b hv hh hO hS hSl hW
  obtain ⟨i0, hi, hz0, hz1, hz2⟩ := info_parts Try.infoNum
  have hfew := hV.few
  have hhi := hV.hi
  have hord := b.hr
  have hol : O.length ≤ 17592186044000 := by
    rw [hO] at hord
    simp at hord
    omega
  -- the box, what is seen
  obtain ⟨W, hWd⟩ : ∃ W, W = w.alloc (.cells #[.int .i64 (n : Int), .slice ao es.length ca] 24) := ⟨_, rfl⟩
  have hbW : Below w.heap.size w W := by rw [hWd]; exact (Below.refl _ _).alloc (Nat.le_refl _) _
  have hszW : W.heap.size = w.heap.size + 1 := by rw [hWd]; simp
  have hgW : W.heap[w.heap.size]? = some (.cells #[.int .i64 (n : Int), .slice ao es.length ca] 24 (0, 0)) := by rw [hWd]; exact heap_alloc_new w _
  have h1 := hW.later hbW
  have h2 := h1.setSeen v true
  rw [hS] at h2
  obtain ⟨y0, hy0⟩ : ∃ y, S[v]? = some y := ⟨_, List.getElem?_eq_getElem (by omega)⟩
  have d1 := h1.is.cell hy0
  have f1 := h1.is.free v
  obtain ⟨W2, hW2⟩ : ∃ W2, W2 = W.setCell ⟨gs, v, none⟩ (.bool true) := ⟨_, rfl⟩
  rw [← hW2] at h2
  obtain ⟨-, -, q2, -, -⟩ := h2.cells
  have hlts := h1.is.lt
  have hwr2 : Wrote (WrS F gp gh gr gs ov) w W2 := by
    rw [hW2]
    exact ((Wrote.refl _ w).later hbW).setCell (.inr (.inr (.inr (.inr (.inl rfl))))) _
  have hlt0 : ∀ b, WrS F gp gh gr gs ov b → b < w.heap.size := fun b hb => WrS.old hW hb
  have hg2 : W2.heap[w.heap.size]? = some (.cells #[.int .i64 (n : Int), .slice ao es.length ca] 24 (0, 0)) := by
    rw [hW2, blk_same (fun e => by have := hlt0 gs (.inr (.inr (.inr (.inr (.inl rfl))))); omega)]
    exact hgW
  have hsz2 : W2.heap.size = w.heap.size + 1 := by rw [hW2]; simpa using hszW
  have e0 : (0 : Int) ≤ (v : Int) := by omega
  have e1 : (v : Int) < (n : Int) := by omega
  have hrow : W2.ownsRow w0.heap.size 3 1 ov O.length (O.map (Value.int .i64)) := h2.ow
  have HROW := Nu.hid hrow
  have H2 := Nu.hid h2
  have HWD := Nu.hid hWd
  have HW2 := Nu.hid hW2
  have HWR2 := Nu.hid hwr2
  have HG2 := Nu.hid hg2
  have HLT0 := Nu.hid hlt0
  have hB2 := h2.bel.size
  have HRUN := Nu.hid hrun
  have HBD := Nu.hid b
  have HO := Nu.hid hO
  have HH := Nu.hid hh
  have HE := Nu.hid hE
  have HV := Nu.hid hV
  have HR := Nu.hid hR
  have HVL := Nu.hid hvl
  have HIH := Nu.hid ih
  have HNF : Hid (ov.ownBlock ≠ some w.heap.size) := fun e => by have := (hW.ow.lt e).2; omega
  rw [hWd] at d1 f1
  rw [hW2, hWd] at q2
  clear hbW hgW h1 h2 hS hSl hW hrow hWd hW2 hwr2 hg2 hlt0 hrun b hO hh hE hV hR hvl ih hord hy0 hlts hszW
  go_enter Try.func27, Try.ntmps27
  go_wp2_with (at_builtin; rw [← HWD.out, ← HW2.out]; refine Hid.out ?_)
  refine Nu.hid ?_
  have hszw : (⟨w.heap.size + 1, 0, none⟩ : Addr) = ⟨W2.heap.size, 0, none⟩ := by rw [hsz2]
  refine wpList_append_own_at _ rfl _ _ 26 rfl w0.heap.size 3 i0 (.int .i64 0) 1 8 Try.underlying26 hi hz0 hz1 hz2 rfl (by decide) ov _ _ rfl (World.ownsRow.alloc HROW.out _) ⟨w.heap.size + 1, 0, none⟩ 1 1 [.int .i64 (v : Int)] rfl rfl (by rw [hszw]; exact cell_one_new _ _ _) (by simp [Value.oneCell']) (by unfold maxLen; omega) (by omega) (by simp; omega) ?_
  intro ov1 w3 hown hg _ hat
  have hz : OwnZ w3 w0.heap.size ov1 (O ++ [(v : Int)]) := by
    unfold OwnZ
    rw [List.length_append, List.map_append]
    exact hown
  have hat' : ov1.ownBlock = ov.ownBlock ∨ ov1.ownBlock = some (W2.heap.size + 1) := by simpa using hat
  obtain ⟨h3, c5, f5, hwr3⟩ := H2.out.putOrd hz hg hat'
  rw [← HO.out] at h3
  obtain ⟨g3, cap3, hv3⟩ := own_succ hown
  subst hv3
  obtain ⟨w4, hw4⟩ : ∃ w4, w4 = w3.setCell ⟨F, 2, none⟩ (.slice (some ⟨g3, 0, none⟩) (O.length + 1) cap3) := ⟨_, rfl⟩
  rw [← hw4] at h3 hwr3
  have hfar1 : (Value.slice (some ⟨g3, 0, none⟩) (O.length + 1) cap3).ownBlock ≠ some w.heap.size := by
    rcases hat' with e | e
    · rw [e]; exact HNF.out
    · rw [e]; intro e2; have := Option.some.inj e2; omega
  have hloop : RLoop w0 w F gp gh gr gs ov n r k v 0 es s' ao ca w4 s1 k (.slice (some ⟨g3, 0, none⟩) (O.length + 1) cap3) := by
    refine ⟨HRUN.out, Nat.le_refl _, HBD.out, HH.out, h3, ?_, hfar1, HWR2.out.trans hwr3, ?_⟩
    · exact (hwr3.block w.heap.size (by omega) (fun hb => by have := HLT0.out _ hb; omega)).trans HG2.out
    · rcases hat' with e | e
      · exact .inl e
      · exact .inr ⟨_, e, by omega⟩
  have HLOOP := Nu.hid hloop
  have HW4 := Nu.hid hw4
  clear hown hg hat hat' hz h3 hwr3 hw4 hloop hfar1 d1 f1 q2 HROW H2 HWD HW2 HG2 HRUN HWR2 HO
  go_wp2
  rw [← HW4.out]
  clear c5 f5
  obtain ⟨L, hL⟩ : ∃ L, Cs.out es v (2 * es.length) = L := ⟨_, rfl⟩
  have hLm : Cs.outm es v (2 * es.length) = L.map fun i : Nat => (i : Int) := by unfold Cs.outm; rw [hL]
  obtain ⟨lo, lcap, lcell, lints⟩ := HR.out.look HVL.out hv
  rw [hLm, List.length_map] at lcell
  rw [hLm] at lints
  have hLl : L.length ≤ 8388608 := by rw [← hL]; have := Cs.out_len_le (es := es) (v := v) (2 * es.length); omega
  have hGlt := HR.out.lt
  have HL := Nu.hid hL
  have LCELL := Nu.hid lcell
  have LINTS := Nu.hid lints
  clear hL hLm lcell lints
  go_loopw [10] (fun c wr => ∃ (i : Nat) (s : Df.St) (kk : Nat) (ov' : Value), i ≤ L.length ∧ c = .int .i64 i ∧ RLoop w0 w F gp gh gr gs ov n r k v i es s' ao ca wr s kk ov') (fun c _ => L.length - (intOf c).toNat)
  case atStart => exact ⟨0, s1, k, _, Nat.zero_le _, rfl, HLOOP.out⟩
  case round =>
    obtain ⟨i, s, kk, ov', hiL, rfl, hl⟩ := hrel
    have hbel := hl.rw_.bel
    have c0 := (hbel.cell (p := ⟨G, v, none⟩) hGlt).trans LCELL.out
    obtain ⟨x0, x1, -⟩ := pair_cells hl.box
    by_cases hlt : i < L.length
    · have hlti : (i : Int) < (L.length : Int) := by omega
      have hk0 : (0 : Int) ≤ (i : Int) := by omega
      obtain ⟨h, hhd⟩ : ∃ h, L[i]? = some h := ⟨_, List.getElem?_eq_getElem hlt⟩
      obtain ⟨hh, hfr, -⟩ := Cs.out_of (es := es) (v := v) (k := 2 * es.length) (j := i) (i := h) (by rw [HL.out]; exact hhd)
      obtain ⟨b, o, rfl, d0⟩ := LINTS.out i (h : Int) (by rw [List.getElem?_map, hhd]; rfl)
      have hdl : L.drop i = h :: L.drop (i + 1) := by
        obtain ⟨h1, h2⟩ := List.getElem?_eq_some_iff.1 hhd
        rw [List.drop_eq_getElem_cons h1, h2]
      have hrun := hl.run
      rw [HL.out, hdl] at hrun
      have d1 := (hbel.cell (p := ⟨b, o + i, none⟩) (block_lt_of_cell d0)).trans d0
      obtain ⟨jh, hjh⟩ : ∃ jh, h / 2 = jh := ⟨_, rfl⟩
      have htd := tdiv2 hjh
      have htd2 : (h : Int) / 2 = (jh : Int) := by omega
      have j0 : (0 : Int) ≤ (jh : Int) := by omega
      have j1 : (jh : Int) < (es.length : Int) := by omega
      have j2 : (0 : Int) ≤ (h : Int) := by omega
      have hol2 := hl.bd.lo
      have d3 := hl.rw_.ir.cell (getD_of (-1) (by omega : jh < s.ori.length))
      have hdir : s.ori.getD jh (-1) = s.dir (h / 2) := by rw [hjh]
      rw [hdir] at d3
      obtain ⟨q0, q1, q2, q3, -⟩ := hl.rw_.cells
      have ht := (Cs.half_lt HV.out hh).2
      have hdo := hl.bd.ho jh (by omega)
      have hdo' : s.dir jh = s.dir (h / 2) := by rw [hjh]
      rw [hdo'] at hdo
      have HLP := Nu.hid hl
      cases hrun with
      | @old k1 _ _ _ _ hw hr' =>
        have hge : (0 : Int) ≤ s.dir (h / 2) := by omega
        obtain ⟨y, hy⟩ : ∃ y, s.dir (h / 2) = y := ⟨_, rfl⟩
        rw [hy] at hge d3
        have HNX : Hid (RLoop w0 w F gp gh gr gs ov n r k v (i + 1) es s' ao ca wr s k1 ov') := ⟨by rw [HL.out]; exact hr', by have := hl.few; omega, hl.bd, hl.here, hl.rw_, hl.box, hl.far, hl.wrote, hl.at_⟩
        clear hl hr' hw hy hdir hdo hdo' hbel hhd hdl d0 hol2
        go_wp2
        go_roundw
        case rel => exact ⟨i + 1, s, _, ov', by omega, by go_num, HNX.out⟩
        case measure => simp [intOf]; omega
      | @back k1 _ _ _ _ hw hv' hr' =>
        have hm : s.ori.set jh (h : Int) = (s.mark h).ori := by unfold Df.St.mark; rw [hjh]
        have h5 := hl.rw_.setOri jh (h : Int)
        rw [hm] at h5
        have f4 := hl.rw_.ir.free jh
        have hw5 : Wrote (WrS F gp gh gr gs ov) w (wr.setCell ⟨gr, jh, none⟩ (.int .i64 (h : Int))) := hl.wrote.setCell (.inr (.inr (.inr (.inl rfl)))) _
        have hbx5 : (wr.setCell ⟨gr, jh, none⟩ (.int .i64 (h : Int))).heap[w.heap.size]? = some (.cells #[.int .i64 (n : Int), .slice ao es.length ca] 24 (0, 0)) := (blk_same (fun e => by have := HLT0.out gr (.inr (.inr (.inr (.inl rfl)))); omega) _).trans hl.box
        obtain ⟨w5, hw5d⟩ : ∃ w5, w5 = wr.setCell ⟨gr, jh, none⟩ (.int .i64 (h : Int)) := ⟨_, rfl⟩
        rw [← hw5d] at h5 hw5 hbx5
        have hto := r4to_any n ao ca es h w5 (HE.out.later h5.bel) HV.out hh
        obtain ⟨x0, x1, -⟩ := pair_cells hbx5
        obtain ⟨t, htt⟩ : ∃ t, Cs.to es h = t := ⟨_, rfl⟩
        rw [htt] at hto ht hv'
        have hbm := hl.bd.mark hh hw
        have t0 : (0 : Int) ≤ (t : Int) := by omega
        have t1 : (t : Int) < (n : Int) := by omega
        rw [hw] at d3
        have HTO := Nu.hid hto
        have H5 := Nu.hid h5
        have HW5 := Nu.hid hw5
        have HBX5 := Nu.hid hbx5
        have HW5D := Nu.hid hw5d
        rw [hw5d] at x0 x1
        have hsn := Df.rseen_at hbm ht
        have hsv : ((s.mark h).height t != -1) = true := by
          show (s.height t != -1) = true
          simpa using hv'
        rw [hsv] at hsn
        have HNX : Hid (∀ w6, Below w5.heap.size w5 w6 → RLoop w0 w F gp gh gr gs ov n r k v (i + 1) es s' ao ca w6 (s.mark h) k1 ov') := fun w6 hb6 => ⟨by rw [HL.out]; exact hr', by have := hl.few; omega, hbm, hl.here, H5.out.later hb6, (hb6.block w.heap.size (lt_of_block HBX5.out)).trans HBX5.out, hl.far, HW5.out.later hb6, hl.at_⟩
        have HSEEN : Hid (∀ w6, Below w5.heap.size w5 w6 → w6.cell? ⟨gs, t, none⟩ = some (.bool true)) := fun w6 hb6 => (H5.out.later hb6).is.cell hsn
        clear hl hr' hw hv' hdir hdo hdo' hbel hhd hdl d0 hol2 h5 hw5 hbx5 hw5d hto hm hbm hsn hsv htt
        go_wp2_with (go_at_call 42; rw [← HW5D.out]; refine HTO.out.mono ?_; rintro e w6 ⟨rfl, hb6⟩; have z6 := HSEEN.out w6 hb6; have HL6 := Nu.hid (HNX.out w6 hb6); clear hb6)
        go_roundw
        case rel => exact ⟨i + 1, _, _, ov', by omega, by go_num, HL6.out⟩
        case measure => simp [intOf]; omega
      | @tree j1 k1 _ s2 _ _ _ hw hv' hr1 hr2 =>
        have hm : s.ori.set jh (h : Int) = (s.mark h).ori := by unfold Df.St.mark; rw [hjh]
        have h5 := hl.rw_.setOri jh (h : Int)
        rw [hm] at h5
        have f4 := hl.rw_.ir.free jh
        have hw5 : Wrote (WrS F gp gh gr gs ov) w (wr.setCell ⟨gr, jh, none⟩ (.int .i64 (h : Int))) := hl.wrote.setCell (.inr (.inr (.inr (.inl rfl)))) _
        have hbx5 : (wr.setCell ⟨gr, jh, none⟩ (.int .i64 (h : Int))).heap[w.heap.size]? = some (.cells #[.int .i64 (n : Int), .slice ao es.length ca] 24 (0, 0)) := (blk_same (fun e => by have := HLT0.out gr (.inr (.inr (.inr (.inl rfl)))); omega) _).trans hl.box
        obtain ⟨w5, hw5d⟩ : ∃ w5, w5 = wr.setCell ⟨gr, jh, none⟩ (.int .i64 (h : Int)) := ⟨_, rfl⟩
        rw [← hw5d] at h5 hw5 hbx5
        have hto := r4to_any n ao ca es h w5 (HE.out.later h5.bel) HV.out hh
        obtain ⟨x0, x1, -⟩ := pair_cells hbx5
        obtain ⟨t, htt⟩ : ∃ t, Cs.to es h = t := ⟨_, rfl⟩
        rw [htt] at hto ht hv'
        have hbm := hl.bd.mark hh hw
        have t0 : (0 : Int) ≤ (t : Int) := by omega
        have t1 : (t : Int) < (n : Int) := by omega
        rw [hw] at d3
        have HTO := Nu.hid hto
        have H5 := Nu.hid h5
        have HW5 := Nu.hid hw5
        have HBX5 := Nu.hid hbx5
        have HW5D := Nu.hid hw5d
        rw [hw5d] at x0 x1
        have hsn := Df.rseen_at hbm ht
        have hsv : ((s.mark h).height t != -1) = false := by
          show (s.height t != -1) = false
          simpa using hv'
        rw [hsv] at hsn
        have HSEEN : Hid (∀ w6, Below w5.heap.size w5 w6 → w6.cell? ⟨gs, t, none⟩ = some (.bool false)) := fun w6 hb6 => (H5.out.later hb6).is.cell hsn
        have hhv := hl.bd.hh v hv
        have hhere := hl.here
        obtain ⟨x, hx⟩ : ∃ x, s.height v = x := ⟨_, rfl⟩
        rw [hx] at hhv hhere
        have hgo : s.go es h = (s.mark h).reach t h (x + 1) := by unfold Df.St.go; rw [htt, hfr, hx]
        rw [hgo, htt] at hr1
        have hbgo := hl.bd.go HV.out hh hw
        rw [hgo] at hbgo
        have hhg : ((s.mark h).reach t h (x + 1)).height t ≠ -1 := by
          rw [Df.height_reach hbm ht, if_pos rfl]
          omega
        -- the world ahead of the call of itself
        have HRD : Hid (∀ w6, Below w5.heap.size w5 w6 → (∀ j, w6.cell? ⟨F, j, none⟩ = w5.cell? ⟨F, j, none⟩) ∧ (∃ y, w6.cell? ⟨gp, t, none⟩ = some (.int .i64 y)) ∧ w6.frozen? ⟨gp, t, none⟩ = false ∧ ((∃ y, (w6.setCell ⟨gp, t, none⟩ (.int .i64 (h : Int))).cell? ⟨gh, t, none⟩ = some (.int .i64 y)) ∧ (w6.setCell ⟨gp, t, none⟩ (.int .i64 (h : Int))).frozen? ⟨gh, t, none⟩ = false ∧ (w6.setCell ⟨gp, t, none⟩ (.int .i64 (h : Int))).cell? ⟨gh, v, none⟩ = some (.int .i64 x) ∧ (w6.setCell ⟨gp, t, none⟩ (.int .i64 (h : Int))).cell? ⟨F, 1, none⟩ = some (.slice (some ⟨gh, 0, none⟩) n n))) := fun w6 hb6 => by
          have h6 := H5.out.later hb6
          have h7 := h6.setPar t (h : Int)
          refine ⟨fun j => hb6.cell (p := ⟨F, j, none⟩) H5.out.lt, ⟨_, h6.ip.cell (getD_of (-1) (by have := hbm.lp; have e : (s.mark h).par.length = s.par.length := rfl; omega))⟩, h6.ip.free t, ⟨_, h7.ih.cell (getD_of (-1) (by have := hbm.lh; have e : (s.mark h).hei.length = s.hei.length := rfl; have e2 := Df.rhei_len s; omega))⟩, h7.ih.free t, ?_, h7.cells.2.1⟩
          have := h7.ih.cell (Df.rhei_at hl.bd hv (by rw [hx]; exact hhere))
          rw [this]
          exact congrArg (fun z => some (Value.int .i64 z)) hx
        have HREC : Hid (∀ w6 W8, Below w5.heap.size w5 w6 → W8 = ((w6.setCell ⟨gp, t, none⟩ (.int .i64 (h : Int))).setCell ⟨gh, t, none⟩ (.int .i64 (x + 1))).drew → W8.heap[w.heap.size]? = some (.cells #[.int .i64 (n : Int), .slice ao es.length ca] 24 (0, 0)) ∧ Calls Try.prog 27 #[.agg #[.int .i64 (n : Int), .slice ao es.length ca], .slice (some ⟨G, 0, none⟩) n n, .pointer (some ⟨F, 0, none⟩), .slice (some ⟨gs, 0, none⟩) n n, .int .i64 (t : Int)] W8 fun e w8 => e = .returned (.tuple #[]) ∧ ∃ ov8, RLoop w0 w F gp gh gr gs ov n r k v (i + 1) es s' ao ca w8 s2 k1 ov8) := fun w6 W8 hb6 hW8 => by
          have h6 := H5.out.later hb6
          have h8 := ((h6.setPar t (h : Int)).setHei t (x + 1)).later (Below.refl _ _).drew
          have e1 : (Df.rhei s).set t (x + 1) = Df.rhei ((s.mark h).reach t h (x + 1)) := (Df.rhei_reach (s.mark h) t h (x + 1) (by omega)).symm
          rw [e1, ← hW8] at h8
          have hlt6 : w.heap.size < w6.heap.size := Nat.lt_of_lt_of_le (lt_of_block HBX5.out) hb6.size
          have hbx8 : W8.heap[w.heap.size]? = some (.cells #[.int .i64 (n : Int), .slice ao es.length ca] 24 (0, 0)) := by
            rw [hW8]
            show ((w6.setCell ⟨gp, t, none⟩ (.int .i64 (h : Int))).setCell ⟨gh, t, none⟩ (.int .i64 (x + 1))).heap[w.heap.size]? = _
            rw [blk_same (fun e => by have := HLT0.out gh (.inr (.inr (.inl rfl))); omega), blk_same (fun e => by have := HLT0.out gp (.inr (.inl rfl)); omega)]
            exact (hb6.block w.heap.size (lt_of_block HBX5.out)).trans HBX5.out
          have hwr8 : Wrote (WrS F gp gh gr gs ov) w W8 := by
            rw [hW8]
            exact (((HW5.out.later hb6).setCell (.inr (.inl rfl)) _).setCell (.inr (.inr (.inl rfl))) _).drew
          have hs8 : w6.heap.size = W8.heap.size := by
            rw [hW8]
            show _ = ((w6.setCell ⟨gp, t, none⟩ (.int .i64 (h : Int))).setCell ⟨gh, t, none⟩ (.int .i64 (x + 1))).heap.size
            simp
          refine ⟨hbx8, ?_⟩
          refine (HIH.out j1 (by have := hl.few; omega) _ s2 t ov' s.ord (Df.rseen (s.mark h)) _ hr1 hbgo ht hhg rfl (Df.rseen_reach (s.mark h) t h (x + 1) (by omega)).symm (by rw [Df.rseen_len]; exact hbm.lh) h8).mono ?_
          rintro e w8 ⟨he, ov8, hrw, hat8, hwr⟩
          refine ⟨he, ov8, by rw [HL.out]; exact hr2, by have := hl.few; omega, hr1.bd HV.out Df.out_half hbgo, ?_, hrw, ?_, ?_, ?_, ?_⟩
          · have e2 := hr1.stays HV.out Df.out_half hbgo (u := v) (by
              rw [Df.height_reach hbm ht]
              split
              · omega
              · show s.height v ≠ -1; rw [hx]; exact hhere)
            rw [e2, Df.height_reach hbm ht]
            split
            · omega
            · show s.height v ≠ -1; rw [hx]; exact hhere
          · refine (hwr.block w.heap.size (by omega) fun hb => ?_).trans hbx8
            rcases hb with hb | hb | hb | hb | hb | hb
            · have := HLT0.out F (.inl rfl); omega
            · have := HLT0.out gp (.inr (.inl rfl)); omega
            · have := HLT0.out gh (.inr (.inr (.inl rfl))); omega
            · have := HLT0.out gr (.inr (.inr (.inr (.inl rfl)))); omega
            · have := HLT0.out gs (.inr (.inr (.inr (.inr (.inl rfl))))); omega
            · exact HLP.out.far hb
          · rcases hat8 with e | ⟨g, e, hge⟩
            · rw [e]; exact HLP.out.far
            · rw [e]; intro e2; have := Option.some.inj e2; omega
          · refine hwr8.next hwr fun b hb hs => ?_
            rcases hs with hs | hs | hs | hs | hs | hs
            · exact .inl hs
            · exact .inr (.inl hs)
            · exact .inr (.inr (.inl hs))
            · exact .inr (.inr (.inr (.inl hs)))
            · exact .inr (.inr (.inr (.inr (.inl hs))))
            · rcases HLP.out.at_ with e | ⟨g, e, hge⟩
              · exact .inr (.inr (.inr (.inr (.inr (e ▸ hs)))))
              · rw [e] at hs; have := Option.some.inj hs; omega
          · rcases hat8 with e | ⟨g, e, hge⟩
            · rw [e]; exact HLP.out.at_
            · exact .inr ⟨g, e, by omega⟩
        have hxw : IntKind.i64.wrap (x + 1) = x + 1 := by rw [IntKind.wrap_i64]; omega
        obtain ⟨-, -, -, -, fF⟩ := H5.out.cells
        have Q5 := Nu.hid H5.out.cells
        clear hl hr1 hr2 hw hv' hdir hdo hdo' hbel hhd hdl d0 hol2 h5 hw5 hbx5 hw5d hto hm hbm hsn hsv htt hx hgo hbgo hhg fF hhere
        go_wp2_with (go_at_call 42; rw [← HW5D.out]; refine HTO.out.mono ?_; rintro e w6 ⟨rfl, hb6⟩; refine Hid.out ?_)
        refine Nu.hid ?_
        have z6 := HSEEN.out w6 hb6
        obtain ⟨u1, ⟨y1, u2⟩, u3, ⟨y2, u4⟩, u5, u6, u7⟩ := HRD.out w6 hb6
        obtain ⟨W8, hW8⟩ : ∃ W8, W8 = ((w6.setCell ⟨gp, t, none⟩ (.int .i64 (h : Int))).setCell ⟨gh, t, none⟩ (.int .i64 (x + 1))).drew := ⟨_, rfl⟩
        obtain ⟨hbx8, hrec8⟩ := HREC.out w6 W8 hb6 hW8
        obtain ⟨x0, x1, -⟩ := pair_cells hbx8
        have HREC8 := Nu.hid hrec8
        have HW8 := Nu.hid hW8
        clear hbx8 hrec8 hW8
        have k0 := (u1 0).trans Q5.out.1
        have hbx6 := (hb6.block w.heap.size (lt_of_block HBX5.out)).trans HBX5.out
        have hlt6 : w.heap.size < w6.heap.size := Nat.lt_of_lt_of_le (lt_of_block HBX5.out) hb6.size
        clear hb6 u1 HREC HRD HSEEN q0 q1 q2 q3 d1 d3 c0
        go_wp2_with fail
        go_big_region
        rw [← HW8.out]
        go_wp2_with (go_at_call 27; refine HREC8.out.mono ?_; rintro e w9 ⟨rfl, ov8, hl9⟩; have HL9 := Nu.hid hl9; clear hl9)
        go_roundw
        case rel => exact ⟨i + 1, _, _, ov8, by omega, by go_num, HL9.out⟩
        case measure => simp [intOf]; omega
    · obtain rfl : i = L.length := by omega
      have hd : ¬ ((L.length : Int) < (L.length : Int)) := by omega
      have hend : s = s' := by
        have h1 := hl.run
        rw [HL.out, List.drop_length] at h1
        cases h1
        rfl
      subst hend
      have HLP := Nu.hid hl
      clear hl hbel x0 x1
      go_wp2
      go_end0
      exact ⟨rfl, ov', HLP.out.rw_, HLP.out.at_, HLP.out.wrote⟩
end

end Go.Proofs.Ytponmjipbcmlhaa
