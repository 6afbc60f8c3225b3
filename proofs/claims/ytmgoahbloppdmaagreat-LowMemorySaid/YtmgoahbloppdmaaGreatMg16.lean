import Derived.Test.YtmgoahbloppdmaaGreatMg15
import Derived.Test.YtmgoahbloppdmaaGreatMg12
import Derived.Test.YtmgoahbloppdmaaGreatMg04
import Derived.Test.YtmgoahbloppdmaaGreatMg05
import Derived.RangeFuncNested
import Derived.RangeFuncBound
import Derived.RangeFuncCalls
import Derived.RangeFuncLeaves
import Derived.RangeFuncBox
import Derived.Shelf.Abstract
import Derived.Shelf.RegionOpen
import Derived.OwnWalkIn
import Derived.TacticsInMore
import Derived.LoopNIn
import Derived.LoopIn
import Derived.Maps.AppendAt
import Derived.Test.YtmgoahbloppdmaaGreatMg11
/-
  dfs.Valid, dfs.Above.
-/
namespace Go.Proofs.YtmgoahbloppdmaaGreat
open Go.RowKit

theorem Stands.isVF {n : Int} {es : List (Int × Int)} {f : For} {s : Df.St} {w w' : World} {r : Option Addr} (h : Stands n es f s w r w') : IsVF n es s := by
  obtain ⟨m, p, gp, gb, av, P, E, w0, h1, h2, h3, _⟩ := h
  exact ⟨m, h1, h2, h3⟩

theorem Stands.bel {n : Int} {es : List (Int × Int)} {f : For} {s : Df.St} {w w' : World} {r : Option Addr} (h : Stands n es f s w r w') : Below w.heap.size w w' := by
  obtain ⟨m, p, gp, gb, av, P, E, w0, h1, h2, h3, h4, h5, h6, h7, h8⟩ := h
  exact h8

/-- What Above tells: the forest is one of the graph, both are vertices, one stands above the other. -/
def AboveP (n : Int) (es : List (Int × Int)) (s : Df.St) (x y : Int) : Prop := IsVF n es s ∧ ∃ u v : Nat, x = (u : Int) ∧ y = (v : Int) ∧ (u : Int) < n ∧ (v : Int) < n ∧ Df.Anc es s u v

set_option maxRecDepth 100000 in
set_option maxHeartbeats 16000000 in
theorem dvalid_any (n : Int) (ao : Option Addr) (cap : Nat) (es : List (Int × Int)) (f : For) (s : Df.St) (w : World) (he : EdgesAt w ao es) (hl : es.length ≤ 4611686018427387904) (hF : LstF w f s) :
    Calls Tryz.prog 33 #[graphVal n ao es.length cap, f.val s] w (BoolPost (IsVF n es s) w) := by
  obtain ⟨a1, a2, a3, a4, c1, c2, c3, c4⟩ := f
  obtain ⟨W, hW⟩ : ∃ W, W = (w.alloc (.cells #[.int .i64 n, .slice ao es.length cap] 24)).alloc (.cells #[.slice a1 s.par.length c1, .slice a2 s.hei.length c2, .slice a3 s.ord.length c3, .slice a4 s.ori.length c4] 27) := ⟨_, rfl⟩
  have hB0 : Below w.heap.size w W := by rw [hW]; exact ((Below.refl _ _).alloc (Nat.le_refl _) _).alloc (by simp) _
  have g1 : W.heap[w.heap.size]? = some (.cells #[.int .i64 n, .slice ao es.length cap] 24 (0, 0)) := by
    rw [hW, Below.heap_alloc _ _ _ (by simp)]
    exact heap_alloc_new w _
  have g2 : W.heap[w.heap.size + 1]? = some (.cells #[.slice a1 s.par.length c1, .slice a2 s.hei.length c2, .slice a3 s.ord.length c3, .slice a4 s.ori.length c4] 27 (0, 0)) := by
    rw [hW]
    exact alloc_at (by simp)
  have hrd := read_any n ao cap es ⟨a1, a2, a3, a4, c1, c2, c3, c4⟩ s W (he.later hB0) hl (hF.later hB0)
  unfold graphVal at hrd ⊢
  unfold For.val at hrd ⊢
  dsimp only at hrd ⊢
  have HRD := Nu.hid hrd
  have HB0 := Nu.hid hB0
  obtain ⟨x0, x1, -⟩ := pair_cells g1
  obtain ⟨k0, k1, k2, k3, -⟩ := four_cells g2
  have HWW := Nu.hid hW
  rw [hW] at x0 x1 k0 k1 k2 k3
  clear hrd hB0 g1 g2 he hW hF
  go_enter Tryz.func33, Tryz.ntmps33
  go_wp2_with (go_at_call 56; rw [← HWW.out]; refine HRD.out.mono ?_; rintro e w1 (⟨r, rfl, hs⟩ | ⟨r, rfl, hno, hb1⟩); rotate_left; have HNO := Nu.hid hno; have HB1 := Nu.hid hb1; clear hno hb1; rotate_left; have HS := Nu.hid hs; clear hs)
  · go_ret
    exact ⟨true, rfl, ⟨fun _ => HS.out.isVF, fun _ => rfl⟩, HB0.out.trans (HS.out.bel.mono HB0.out.size)⟩
  · go_ret
    exact ⟨false, rfl, ⟨fun h => (by cases h), fun h => absurd h HNO.out⟩, HB0.out.trans (HB1.out.mono HB0.out.size)⟩

end Go.Proofs.YtmgoahbloppdmaaGreat

/-
  read: a graph and a forest, if they are ones.
-/
namespace Go.Proofs.YtmgoahbloppdmaaGreat
open Go.RowKit

def ReadPost8 (n : Int) (es : List (Int × Int)) (f : For) (s : Df.St) (w : World) (e : Ending) (w' : World) : Prop :=
  ((Si.valid n es = false ∧ e = .returned (.tuple #[.pointer none, .int .i64 1])) ∨ (Si.valid n es = true ∧ ¬ IsVF n es s ∧ e = .returned (.tuple #[.pointer none, .int .i64 80])) ∨
    ∃ (p m : Nat) (av : Value), n = (m : Int) ∧ e = .returned (.tuple #[.pointer (some ⟨p, 0, none⟩), .int .i64 0]) ∧ Wd w' p av m es f s) ∧ Below w.heap.size w w'

set_option maxRecDepth 100000 in
set_option maxHeartbeats 8000000 in
theorem read8_any (n : Int) (ao : Option Addr) (cap : Nat) (es : List (Int × Int)) (f : For) (s : Df.St) (w : World) (he : EdgesAt w ao es) (hl : es.length ≤ 4611686018427387904) (hF : LstF w f s) :
    Calls Tryz.prog 19 #[graphVal n ao es.length cap, f.val s] w (ReadPost8 n es f s w) := by
  obtain ⟨W, hW⟩ : ∃ W, W = (w.alloc (.cells #[.int .i64 n, .slice ao es.length cap] 24)).alloc (.cells #[.slice f.a1 s.par.length f.c1, .slice f.a2 s.hei.length f.c2, .slice f.a3 s.ord.length f.c3, .slice f.a4 s.ori.length f.c4] 27) := ⟨_, rfl⟩
  have hB0 : Below w.heap.size w W := by rw [hW]; exact ((Below.refl _ _).alloc (Nat.le_refl _) _).alloc (by simp) _
  have g1 : W.heap[w.heap.size]? = some (.cells #[.int .i64 n, .slice ao es.length cap] 24 (0, 0)) := by
    rw [hW, Below.heap_alloc _ _ _ (by simp)]
    exact heap_alloc_new w _
  have g2 : W.heap[w.heap.size + 1]? = some (.cells #[.slice f.a1 s.par.length f.c1, .slice f.a2 s.hei.length f.c2, .slice f.a3 s.ord.length f.c3, .slice f.a4 s.ori.length f.c4] 27 (0, 0)) := by
    rw [hW]
    exact alloc_at (by simp)
  have HNEW : Hid (Calls Tryz.prog 32 #[.agg #[.int .i64 n, .slice ao es.length cap]] W fun e w' => ∃ q z, e = .returned (.tuple #[.pointer q, .int .i64 z]) ∧ ((∃ m p : Nat, n = (m : Int) ∧ Si.Val n es ∧ q = some ⟨p, 0, none⟩ ∧ z = 0 ∧ AdjAt w' W.heap.size p m es) ∨ (Si.valid n es = false ∧ q = none ∧ z = 1)) ∧ Below W.heap.size W w') := (cnew_any n ao cap es W (he.later hB0) hl).mono fun e w' ⟨h, hb⟩ => by
    rcases h with ⟨m, p, h1, h2, h3, h4⟩ | ⟨h1, h2⟩
    · exact ⟨_, _, h3, .inl ⟨m, p, h1, h2, rfl, rfl, h4⟩, hb⟩
    · exact ⟨_, _, h2, .inr ⟨h1, rfl, rfl⟩, hb⟩
  have HVAL : Hid (∀ V, Below w.heap.size w V → Calls Tryz.prog 33 #[.agg #[.int .i64 n, .slice ao es.length cap], .agg #[.slice f.a1 s.par.length f.c1, .slice f.a2 s.hei.length f.c2, .slice f.a3 s.ord.length f.c3, .slice f.a4 s.ori.length f.c4]] V (BoolPost (IsVF n es s) V)) := fun V hV => dvalid_any n ao cap es f s V (he.later hV) hl (hF.later hV)
  have HF : Hid (∀ V, Below w.heap.size w V → LstF V f s) := fun V hV => hF.later hV
  obtain ⟨x0, x1, -⟩ := pair_cells g1
  have HG1 := Nu.hid g1
  have HG2 := Nu.hid g2
  have HB0 := Nu.hid hB0
  have HWW := Nu.hid hW
  rw [hW] at x0 x1
  unfold graphVal For.val
  clear hB0 g1 g2 he hW hF
  go_enter Tryz.func19, Tryz.ntmps19
  go_wp2_with (go_at_call 32; rw [← HWW.out]; refine HNEW.out.mono ?_; rintro e w1 ⟨q, z, rfl, hq, hb1⟩; refine Hid.out ?_)
  refine Nu.hid ?_
  have hB1 : Below w.heap.size w w1 := HB0.out.trans (hb1.mono HB0.out.size)
  clear x0 x1
  rcases hq with ⟨m, pa, hnm, hval, rfl, rfl, hadj⟩ | ⟨hno, rfl, rfl⟩
  · have hg1 := (hb1.block _ (lt_of_block HG1.out)).trans HG1.out
    have hg2 := (hb1.block _ (lt_of_block HG2.out)).trans HG2.out
    obtain ⟨x0, x1, -⟩ := pair_cells hg1
    obtain ⟨k0, k1, k2, k3, -⟩ := four_cells hg2
    have HG21 := Nu.hid hg2
    have HADJ := Nu.hid hadj
    have HVALID := Nu.hid hval
    have HB1 := Nu.hid hB1
    have HV1 := Nu.hid (HVAL.out w1 hB1)
    have HNM := Nu.hid hnm
    clear hg1 hg2 hadj hval hB1 hb1 hnm
    go_wp2_with (go_at_call 33; refine HV1.out.mono ?_; rintro e w2 ⟨b, rfl, hbv, hb2⟩; refine Hid.out ?_)
    refine Nu.hid ?_
    have hB2 : Below w.heap.size w w2 := HB1.out.trans (hb2.mono HB1.out.size)
    cases b with
    | false =>
      have HNO : Hid (¬ IsVF n es s) := fun h => by have := hbv.2 h; cases this
      have HB2 := Nu.hid hB2
      clear hbv hB2 x0 x1 k0 k1 k2 k3
      go_wp2
      go_ret2
      exact ⟨.inr (.inl ⟨Si.valid_iff.2 HVALID.out, HNO.out, rfl⟩), HB2.out⟩
    | true =>
      have hyes := hbv.1 rfl
      obtain ⟨k0, k1, k2, k3, -⟩ := four_cells ((hb2.block _ (lt_of_block HG21.out)).trans HG21.out)
      have HB2 := Nu.hid hB2
      have HYES := Nu.hid hyes
      have HADJ2 : Hid (IsAdj w2 (.pointer (some ⟨pa, 0, none⟩)) m es) := IsAdj.later (.inr ⟨_, pa, rfl, by have := HVALID.out; rw [HNM.out] at this; exact this, HADJ.out⟩) hb2
      clear hbv hyes hB2 hb2 x0 x1
      go_wp2
      go_ret2
      obtain ⟨m', hm', hv', hvf⟩ := HYES.out
      have hmm : m' = m := by have := HNM.out; omega
      subst hmm
      have l := hvf.lens
      have hbe : Below w2.heap.size w2 (w2.alloc (.cells #[.pointer (some ⟨pa, 0, none⟩), .slice f.a1 s.par.length f.c1, .slice f.a2 s.hei.length f.c2, .slice f.a3 s.ord.length f.c3, .slice f.a4 s.ori.length f.c4] 63)) := (Below.refl _ _).alloc (Nat.le_refl _) _
      refine ⟨.inr (.inr ⟨w2.heap.size, m', .pointer (some ⟨pa, 0, none⟩), hm', rfl, ?_, HADJ2.out.later hbe, hv', HF.out _ (HB2.out.trans (hbe.mono HB2.out.size)), hvf⟩), HB2.out.trans (hbe.mono HB2.out.size)⟩
      rw [l.1, l.2.1, l.2.2.1, l.2.2.2]
      exact heap_alloc_new w2 _
  · have HB1 := Nu.hid hB1
    have HNO := Nu.hid hno
    clear hb1 hB1 hno
    go_wp2
    go_ret2
    exact ⟨.inl ⟨HNO.out, rfl⟩, HB1.out⟩

end Go.Proofs.YtmgoahbloppdmaaGreat

/-
  Out: the iterator over the half-edges that leave a vertex, and its contract.
-/
namespace Go.Proofs.YtmgoahbloppdmaaGreat
open Go.RowKit Go.Shelf

attribute [local go_sem] Oper.semAt_some

/-- What lay below n₀ lies as it lay, and so does the iterator's box. -/
def KpW (n₀ Bs : Nat) (W W' : World) : Prop := Below n₀ W W' ∧ W'.heap[Bs]? = W.heap[Bs]?

theorem KpW.refl (n₀ Bs : Nat) (W : World) : KpW n₀ Bs W W := ⟨Below.refl _ _, rfl⟩
theorem kpW_t {n₀ Bs : Nat} {A B C : World} (h : KpW n₀ Bs A B) (k : KpW n₀ Bs B C) : KpW n₀ Bs A C := ⟨h.1.trans k.1, k.2.trans h.2⟩
theorem kpW_b {n₀ Bs : Nat} {w : World} (hn : n₀ ≤ w.heap.size) (hs : Bs < w.heap.size) (W : World) (l : Nat) (o o' : Obj) (hl : w.heap.size ≤ l) (h : W.heap[l]? = some o) (h1 : o.isCells = false) (h2 : o.isWalk = false) : KpW n₀ Bs W (W.putObj l o') :=
  ⟨belowK_b hn W l o o' hl h h1 h2, World.putObj_heap_other (by omega)⟩

/-- The numbers l lie at ao, below n₀. -/
def IntsUnder (n₀ : Nat) (w : World) (ao : Option Addr) (l : List Int) : Prop := ∀ (j : Nat) (x : Int), l[j]? = some x → ∃ b o : Nat, ao = some ⟨b, o, none⟩ ∧ b < n₀ ∧ w.cell? ⟨b, o + j, none⟩ = some (.int .i64 x)

theorem IntsAt.under {w W : World} {ao : Option Addr} {l : List Int} (h : IntsAt w ao l) (hb : Below w.heap.size w W) : IntsUnder w.heap.size W ao l := fun j x hj => by
  obtain ⟨b, o, e, hc⟩ := h j x hj
  exact ⟨b, o, e, block_lt_of_cell hc, (hb.cell (p := ⟨b, o + j, none⟩) (block_lt_of_cell hc)).trans hc⟩

theorem IntsUnder.below {n₀ : Nat} {w W : World} {ao : Option Addr} {l : List Int} (h : IntsUnder n₀ w ao l) (hb : Below n₀ w W) : IntsUnder n₀ W ao l := fun j x hj => by
  obtain ⟨b, o, e, hl, hc⟩ := h j x hj
  exact ⟨b, o, e, hl, (hb.cell (p := ⟨b, o + j, none⟩) hl).trans hc⟩

set_option maxRecDepth 100000 in
set_option maxHeartbeats 2000000 in
/-- The closure that Out answers, for every loop body that keeps what lay below n₀ and its box. -/
theorem citer_in (F : Fence) (n : Nat) (hf : F.fn 76) (hro : F.round = none) (hn : 1 ≤ n) (l Bs n₀ cap : Nat) (ao : Option Addr) (zs : List Int) (hz : zs.length ≤ 8388608) (J Jx : List Int → World → Prop)
    (hY : ∀ pre x W, J pre W → pre.length < zs.length → YieldAt F (n - 1) Tryz.prog l #[.int .i64 x] W fun e W' =>
      (e = .returned (.bool true) ∧ J (pre ++ [x]) W' ∧ KpW n₀ Bs W W') ∨ (e = .returned (.bool false) ∧ Jx (pre ++ [x]) W'))
    (W : World) (hB : Boxed W Bs 25 (.slice ao zs.length cap)) (hc : IntsUnder n₀ W ao zs) (h0 : J [] W) :
    CallsIn F n Tryz.prog 76 #[.func (.yield l) #[] #[], .pointer (some ⟨Bs, 0, none⟩)] W fun e W' => (∃ v, e = .returned v) ∧ ((∃ ys, ys = zs ∧ J ys W') ∨ (∃ pre, pre <+: zs ∧ Jx pre W')) := by
  have hb0 := hB.cell
  refine callsIn_of_wp Tryz.func76 rfl hf ?_ hro
  simp only [Tryz.ntmps76, List.size_toArray, List.length_cons, List.length_nil, Nat.reduceAdd, Nat.reduceSub, Array.replicate_succ, Array.replicate_zero, List.push_toArray, List.append_toArray, List.nil_append, List.cons_append]
  gi_wp2
  gi_loopw [6] (fun i wr => ∃ k : Nat, k ≤ zs.length ∧ i = .int .i64 k ∧ J (zs.take k) wr ∧ KpW n₀ Bs W wr) (fun i _ => zs.length - (intOf i).toNat)
  case atStart => exact ⟨0, Nat.zero_le _, rfl, by simpa using h0, KpW.refl _ _ _⟩
  case round =>
    obtain ⟨k, hk, rfl, hJs, hnx⟩ := hrel
    by_cases hlt : k < zs.length
    · obtain ⟨z, hz0⟩ : ∃ z, zs[k]? = some z := ⟨_, List.getElem?_eq_getElem hlt⟩
      obtain ⟨b, o, rfl, hbn, hcz⟩ := hc k z hz0
      have hb1 : wr.cell? ⟨Bs, 0, none⟩ = some (.slice (some ⟨b, o, none⟩) zs.length cap) := (World.cell?_of_block (w := W) (a := ⟨Bs, 0, none⟩) hnx.2).trans hb0
      have hc1 : wr.cell? ⟨b, o + k, none⟩ = some (.int .i64 z) := (hnx.1.cell (p := ⟨b, o + k, none⟩) hbn).trans hcz
      obtain ⟨fn, tmps, assign, body, hy, hR⟩ := hY (zs.take k) z wr hJs (by simp; omega)
      have hsn : zs.take (k + 1) = zs.take k ++ [z] := by
        rw [List.take_add_one, hz0]
        rfl
      have hk0 : (0 : Int) ≤ (k : Int) := by omega
      have hk1 : (k : Int) < (zs.length : Int) := by omega
      have HSN := Nu.hid hsn
      have HJ := Nu.hid hJs
      have HNX := Nu.hid hnx
      clear hsn hJs hnx hY hcz hz0
      gi_wp2
      refine hR.mono ?_
      rintro e W3 (⟨rfl, hJ3, hk3⟩ | ⟨rfl, hJx3⟩)
      · have HJ3 := Nu.hid hJ3
        have HK3 := Nu.hid hk3
        clear hJ3 hk3
        gi_wp2
        go_roundw
        case rel => exact ⟨k + 1, by omega, by go_num, by rw [HSN.out]; exact HJ3.out, kpW_t HNX.out HK3.out⟩
        case measure => simp [intOf]; omega
      · have HJX3 := Nu.hid hJx3
        clear hJx3
        gi_wp2
        refine bodyPost_ret (results_none rfl _ _ _) rfl ?_
        exact ⟨⟨_, rfl⟩, .inr ⟨_, by rw [← HSN.out]; exact List.take_prefix _ _, HJX3.out⟩⟩
    · have hd : ¬ ((k : Int) < (zs.length : Int)) := by omega
      have HJ : Hid (J zs wr) := by
        show J zs wr
        rw [List.take_of_length_le (by omega)] at hJs
        exact hJs
      clear hJs hnx hY
      gi_wp2
      go_end0
      refine ⟨⟨_, rfl⟩, .inl ?_⟩
      first | exact ⟨_, rfl, HJ.out⟩ | exact HJ.out

/-- So it is an iterator over zs. -/
theorem citer_stops (F : Fence) (n : Nat) (hf : F.fn 76) (hro : F.round = none) (hn : 1 ≤ n) (Bs n₀ cap : Nat) (ao : Option Addr) (zs : List Int) (hz : zs.length ≤ 8388608) (w : World)
    (hn₀ : n₀ ≤ w.heap.size) (hB : Boxed w Bs 25 (.slice ao zs.length cap)) (hc : IntsUnder n₀ w ao zs) :
    SeqStopsK F n Tryz.prog 76 #[.pointer (some ⟨Bs, 0, none⟩)] (fun x : Int => #[Value.int .i64 x]) (KpW n₀ Bs) (fun ys => ys = zs) (fun pre => pre <+: zs) zs.length w := fun l J Jx W hW _ _ hY h0 =>
  citer_in F n hf hro hn l Bs n₀ cap ao zs hz J Jx hY W ((hW.block Bs hB.lt).trans hB) (hc.below (hW.mono hn₀)) h0

def ItPost (n : Nat) (es : List (Int × Int)) (x : Int) (w0 w : World) (e : Ending) (w' : World) : Prop :=
  ∃ Bs ao cap, e = .returned (.func (.func 76) #[] #[.pointer (some ⟨Bs, 0, none⟩)]) ∧ w.heap.size ≤ Bs ∧ Boxed w' Bs 25 (.slice ao (Cs.outZ n es x).length cap) ∧ IntsAt w0 ao (Cs.outZ n es x) ∧ Below w.heap.size w w'

set_option maxRecDepth 100000 in
set_option maxHeartbeats 2000000 in
theorem citer_any (v : Value) (n : Nat) (es : List (Int × Int)) (x : Int) (w0 w : World) (h : IsAdj w0 v n es) (hb : Below w0.heap.size w0 w) : Calls Tryz.prog 59 #[v, .int .i64 x] w (ItPost n es x w0 w) := by
  have HL := Nu.hid (leaving_any v n es x w0 w h hb)
  clear h hb
  go_enter Tryz.func59, Tryz.ntmps59
  go_wp2_with (go_at_call 75; refine HL.out.mono ?_; rintro e w1 ⟨ao, cap, rfl, hi, k, hw⟩; have HI := Nu.hid hi; have HW := Nu.hid hw; clear hi hw)
  go_ret
  have hw := HW.out
  have hi := HI.out
  subst hw
  refine ⟨w.heap.size, ao, cap, rfl, Nat.le_refl _, ?_, hi, ?_⟩
  · exact Boxed.new (w.drewN k) _ _
  · exact (below_drewN (Below.refl _ _) k).alloc (Nat.le_refl _) _

end Go.Proofs.YtmgoahbloppdmaaGreat

/-
  The program's iterators, of half-edges that leave a vertex, and of those by which edges are walked from it.
-/
namespace Go.Proofs.YtmgoahbloppdmaaGreat
open Go.RowKit Go.Shelf

attribute [local go_sem] Oper.semAt_some

theorem take_pre {α : Type} {zs : List α} {k : Nat} {z : α} (h : zs[k]? = some z) : zs.take k ++ [z] <+: zs := by
  have : zs.take (k + 1) = zs.take k ++ [z] := by
    rw [List.take_add_one, h]
    rfl
  rw [← this]
  exact List.take_prefix _ _

abbrev enc1 (x : Int) : Array Value := #[.int .i64 x]

set_option maxRecDepth 100000 in
set_option maxHeartbeats 2000000 in
/-- Out's closure. -/
theorem out_it (Bs n₀ cap : Nat) (S : Nat → Prop) (ao : Option Addr) (zs : List Int) (hz : zs.length ≤ 8388608) (w : World) (hn₀ : n₀ ≤ w.heap.size) (hS : ¬ S Bs) (hB : Boxed w Bs 25 (.slice ao zs.length cap)) (hc : IntsUnder n₀ w ao zs) :
    SeqIt Tryz.prog 76 #[.pointer (some ⟨Bs, 0, none⟩)] enc1 n₀ S zs w 0 := by
  intro l J Jx W hW _ _ _ hY h0
  have hBW : Boxed W Bs 25 (.slice ao zs.length cap) := (hW.block Bs hB.lt).trans hB
  have hcW := hc.below (hW.mono hn₀)
  have hb0 := hBW.cell
  have HN : Hid (n₀ ≤ W.heap.size) := Nat.le_trans hn₀ hW.size
  clear hc hB hW
  refine (callsIn_wide (n := 5)).1 ?_
  refine callsIn_of_wp Tryz.func76 rfl trivial ?_ rfl
  simp only [Tryz.ntmps76, List.size_toArray, List.length_cons, List.length_nil, Nat.reduceAdd, Nat.reduceSub, Array.replicate_succ, Array.replicate_zero, List.push_toArray, List.append_toArray, List.nil_append, List.cons_append]
  gi_wp2
  gi_loopw [6] (fun i wr => ∃ k : Nat, k ≤ zs.length ∧ i = .int .i64 k ∧ J (zs.take k) wr ∧ Kep n₀ S W wr ∧ W.heap.size ≤ wr.heap.size) (fun i _ => zs.length - (intOf i).toNat)
  case atStart => exact ⟨0, Nat.zero_le _, rfl, by simpa using h0, Kep.refl _ _ _, Nat.le_refl _⟩
  case round =>
    obtain ⟨k, hk, rfl, hJs, hnx, hsz⟩ := hrel
    by_cases hlt : k < zs.length
    · obtain ⟨z, hz0⟩ : ∃ z, zs[k]? = some z := ⟨_, List.getElem?_eq_getElem hlt⟩
      obtain ⟨b, o, rfl, hbn, hcz⟩ := hcW k z hz0
      have hb1 : wr.cell? ⟨Bs, 0, none⟩ = some (.slice (some ⟨b, o, none⟩) zs.length cap) := hnx.cell hb0 hS
      have hc1 : wr.cell? ⟨b, o + k, none⟩ = some (.int .i64 z) := (hnx.1.cell (p := ⟨b, o + k, none⟩) hbn).trans hcz
      obtain ⟨fn, tmps, assign, body, hy, hR⟩ := hY (zs.take k) z wr (take_pre hz0) hJs (by omega) 4
      have hsn : zs.take (k + 1) = zs.take k ++ [z] := by
        rw [List.take_add_one, hz0]
        rfl
      have hk0 : (0 : Int) ≤ (k : Int) := by omega
      have hk1 : (k : Int) < (zs.length : Int) := by omega
      have HSN := Nu.hid hsn
      have HJ := Nu.hid hJs
      have HNX := Nu.hid hnx
      have HSZ := Nu.hid hsz
      clear hsn hJs hnx hY hcz hz0 hsz
      gi_wp2
      refine hR.mono ?_
      rintro e W3 ⟨hkf, (⟨rfl, hJ3, hk3⟩ | ⟨rfl, hJx3⟩)⟩
      · have HJ3 := Nu.hid hJ3
        have HK3 := Nu.hid hk3
        have HS3 := Nu.hid hkf.size
        clear hJ3 hk3 hkf
        gi_wp2
        go_roundw
        case rel => exact ⟨k + 1, by omega, by go_num, by rw [HSN.out]; exact HJ3.out, HNX.out.trans HK3.out, Nat.le_trans HSZ.out HS3.out⟩
        case measure => simp [intOf]; omega
      · have HJX3 := Nu.hid hJx3
        clear hJx3
        gi_wp2
        refine bodyPost_ret (results_none rfl _ _ _) rfl ?_
        exact ⟨⟨_, rfl⟩, .inr ⟨_, by rw [← HSN.out]; exact List.take_prefix _ _, HJX3.out⟩⟩
    · have hd : ¬ ((k : Int) < (zs.length : Int)) := by omega
      have HJ : Hid (J zs wr) := by
        show J zs wr
        rw [List.take_of_length_le (by omega)] at hJs
        exact hJs
      clear hJs hnx hY
      gi_wp2
      go_end0
      exact ⟨⟨_, rfl⟩, .inl HJ.out⟩

end Go.Proofs.YtmgoahbloppdmaaGreat

/-
  A region that draws its order and only reads, in the round of a loop over an iterator: one walk serves every order.
-/
namespace Go.Proofs.YtmgoahbloppdmaaGreat
open Go.RowKit

section
variable {P : Program} {ops : Array Oper} {md : Region.Mode} {C : World → Prop}

theorem wpIn_of_quiet {l n : Nat} {o : Oper} {a : Act} {K : Act → Prop} {K' : Act → World → Prop} {Q' : Exit → Act → World → Prop} {w : World} (hnd : ∀ c, o.op ≠ .defer c) (hw : C w) (h : ∀ a w', C w' → K a → K' a w') (hh : o.quiet P a C K) : o.wpIn (Fence.wide.inRound l) n P a w K' Q' := by
  obtain ⟨v, h1, h2⟩ := hh
  have h3 := h1 w hw
  unfold Oper.quietAt at h3
  unfold Oper.wpIn
  refine ⟨fun _ _ => trivial, ?_⟩
  rw [Oper.semAt_plain _ _ _ hnd]
  generalize (execOp a.eval o).run P w = r at *
  cases r with
  | ok x w' =>
    cases x <;> simp only [Oper.quietUpon] at h3 <;> simp only [Oper.uponIn]
    case value u =>
      obtain ⟨e1, e2⟩ := h3
      rw [e1, e2]
      exact h _ _ hw h2
    case skip =>
      obtain ⟨e1, e2⟩ := h3
      rw [e1, ← e2]
      exact h _ _ hw h2
    case enter f args =>
      obtain ⟨e1, hc⟩ := h3
      rw [e1]
      refine ⟨(fun hd => by cases hd), CallsIn.inRound l (callsIn_wide.2 (hc.mono fun e w'' ⟨he, hw''⟩ => ?_))⟩
      subst he
      exact h _ _ hw'' h2
  | halt x w' => simp only [Oper.quietUpon] at h3

theorem wpOpIn_of_qOp {l n i : Nat} {a : Act} {K : Act → Prop} {K' : Act → World → Prop} {Q' : Exit → Act → World → Prop} {w : World} (hnd : ∀ (i : Nat) (o : Oper) c, ops[i]? = some o → o.op ≠ .defer c) (hC : C w) (h : ∀ a w', C w' → K a → K' a w') (hh : qOp P ops C i K a) : wpOpIn (Fence.wide.inRound l) n P ops Q' i K' a w := by
  unfold qOp at hh
  unfold wpOpIn
  split
  · rename_i ho; simp only [ho] at hh; exact h _ _ hC hh
  · rename_i o ho
    simp only [ho] at hh
    split
    · rename_i hw; simp only [hw, if_true] at hh; exact wpIn_of_quiet (fun c => hnd i o c ho) hC h hh
    · rename_i hw; simp only [hw] at hh; exact ⟨fun _ _ => trivial, h _ _ hC hh⟩

theorem wpAnyIn_of_quiet {l n : Nat} {Q : Act → Prop} {Q' : Exit → Act → World → Prop} (hnd : ∀ (i : Nat) (o : Oper) c, ops[i]? = some o → o.op ≠ .defer c) (hQ : ∀ a w, C w → Q a → Q' .normal a w) : ∀ (fuel : Nat) (listed : Array Bool) (a : Act) (w : World), C w →
    wpAnyQ P md ops C Q fuel listed a → wpAnyIn (Fence.wide.inRound l) n P md ops Q' fuel listed a w
  | 0, _, _, _, hw, h => ⟨h.1, hQ _ _ hw h.2⟩
  | fuel + 1, _, _, _, hw, h => ⟨fun h0 => hQ _ _ hw (h.1 h0), fun i hi => wpOpIn_of_qOp hnd hw (fun a' w' hw' => wpAnyIn_of_quiet hnd hQ fuel _ a' w' hw') (h.2 i hi)⟩

def noDefer (o : Oper) : Bool := match o.op with | .defer _ => false | _ => true

theorem wpIn_region_quiet_lit {id l n : Nat} {Q : Exit → Act → World → Prop} {a : Act} {w : World} {os : List Oper} (hm : P.follows .mixedOrders = true) (hB : Region.lexB .any os.toArray = true) (hd : os.all noDefer = true)
    (h : wpQuiet P os.toArray (fun w' => ∃ n, w' = w.drewN n) (fun a' => ∀ w', (∃ n, w' = w.drewN n) → Q .normal a' w') os a) : (Code.region id os.toArray true).wpIn (Fence.wide.inRound l) n P Q a w := by
  have hnd : ∀ (i : Nat) (o : Oper) c, os.toArray[i]? = some o → o.op ≠ .defer c := fun i o c ho e => by
    have := List.all_eq_true.1 hd o (List.mem_of_getElem? (by simpa using ho))
    unfold noDefer at this
    rw [e] at this
    cases this
  simp only [Region.lexB, Bool.and_eq_true] at hB
  refine wpIn_region_any hm (wpAnyIn_of_quiet (C := fun w' => ∃ n, w' = w.drewN n) (Q := fun a' => ∀ w', (∃ n, w' = w.drewN n) → Q .normal a' w') hnd (fun _ w' hw' h => h w' hw') _ _ _ _ ⟨1, rfl⟩ ?_)
  have := wpAnyQ_lex (P := P) (C := fun w' => ∃ n, w' = w.drewN n) (md := .any) hB.1 os.toArray.toList 0 (Array.replicate os.toArray.size false) a (by simp) (by simpa using hB.2) (by simpa using h)
  simpa using this
end

/-- The same, calls among its operations that only make memory. -/
theorem wpIn_region_lw {P : Program} {id l n : Nat} {Q : Exit → Act → World → Prop} {a : Act} {w : World} {os : List Oper} (hm : P.follows .mixedOrders = true) (hB : Region.lexB .any os.toArray = true) (hd : os.all noDefer = true)
    (h : wpQuiet P os.toArray (fun w' => ∃ D : LW w, w' = D.val) (fun a' => ∀ w', (∃ D : LW w, w' = D.val) → Q .normal a' w') os a) : (Code.region id os.toArray true).wpIn (Fence.wide.inRound l) n P Q a w := by
  have hnd : ∀ (i : Nat) (o : Oper) c, os.toArray[i]? = some o → o.op ≠ .defer c := fun i o c ho e => by
    have := List.all_eq_true.1 hd o (List.mem_of_getElem? (by simpa using ho))
    unfold noDefer at this
    rw [e] at this
    cases this
  simp only [Region.lexB, Bool.and_eq_true] at hB
  refine wpIn_region_any hm (wpAnyIn_of_quiet (C := fun w' => ∃ D : LW w, w' = D.val) (Q := fun a' => ∀ w', (∃ D : LW w, w' = D.val) → Q .normal a' w') hnd (fun _ w' hw' h => h w' hw') _ _ _ _ ⟨⟨w.drew, (Below.refl _ _).drew⟩, rfl⟩ ?_)
  have := wpAnyQ_lex (P := P) (C := fun w' => ∃ D : LW w, w' = D.val) (md := .any) hB.1 os.toArray.toList 0 (Array.replicate os.toArray.size false) a (by simp) (by simpa using hB.2) (by simpa using h)
  simpa using this

end Go.Proofs.YtmgoahbloppdmaaGreat
