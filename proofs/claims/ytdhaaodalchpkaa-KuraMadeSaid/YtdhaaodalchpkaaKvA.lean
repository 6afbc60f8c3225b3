/-
  Layer 15, the program: the walker's on and begin.
-/
import Derived.Test.YtdhaaodalchpkaaMgA
import Derived.Test.YtdhaaodalchpkaaMgK
import Derived.Deep.LoopGhost
namespace Go.Proofs.Ytdhaaodalchpkaa
open Go.RowKit

theorem Ku.drN (W : World) (q : Nat) : Below W.heap.size W (W.drewN q) := ⟨rfl, rfl, rfl, Nat.le_refl _, fun _ _ => rfl⟩

namespace Ku
section
variable {n : Nat} {es : List (Int × Int)}
theorem outZ_in {v : Nat} (h : v < n) : Cs.outZ n es (v : Int) = (Cs.out es v (2 * es.length)).map fun i : Nat => (i : Int) := by
  unfold Cs.outZ
  rw [Cs.outI_in h]
theorem deg_in {v : Nat} (h : v < n) : (Cs.outI n es (v : Int)).length = dg es v := by rw [Cs.outI_in h]; rfl
theorem first_twin {h k : Nat} (hu : Cs.to es h < n) (e : Cs.out es (Cs.to es h) (2 * es.length) = [Cs.twin h, k]) : Cs.firstI n es (Cs.to es h : Int) = (Cs.twin h : Int) := by
  unfold Cs.firstI
  rw [outZ_in hu, e]
  rfl
theorem first_next {h k : Nat} (hu : Cs.to es h < n) (e : Cs.out es (Cs.to es h) (2 * es.length) = [k, Cs.twin h]) : Cs.firstI n es (Cs.to es h : Int) = (k : Int) := by
  unfold Cs.firstI
  rw [outZ_in hu, e]
  rfl
theorem after_twin {h k : Nat} (hh : h < 2 * es.length) (hu : Cs.to es h < n) (e : Cs.out es (Cs.to es h) (2 * es.length) = [Cs.twin h, k]) : Cs.afterI n es (Cs.twin h : Int) = (k : Int) := by
  have ht := Cs.twin_lt hh
  have h0 := (Cs.out_of (es := es) (v := Cs.to es h) (k := 2 * es.length) (j := 0) (i := Cs.twin h) (by rw [e]; rfl)).2.2
  unfold Cs.afterI
  rw [if_pos ⟨by omega, by omega⟩, Int.toNat_natCast, Cs.fr_twin, outZ_in hu, e, h0]
  rfl
end
end Ku

set_option maxRecDepth 100000 in
set_option maxHeartbeats 4000000 in
theorem von_no (p n : Nat) (es : List (Int × Int)) (ga : Option Addr) (gn gc h : Nat) (w : World) (hA : IsAdj w (.pointer (some ⟨p, 0, none⟩)) n es) (hv : Si.Val n es) (hh : h < 2 * es.length) (hk : Ku.nxt es h = none) :
    Calls Try.prog 59 #[.agg #[.pointer (some ⟨p, 0, none⟩), .slice ga gn gc], .int .i64 (h : Int)] w fun e w' => e = .returned (.tuple #[.int .i64 0, .bool false]) ∧ Below w.heap.size w w' := by
  obtain ⟨W, hW⟩ : ∃ W, W = w.alloc (.cells #[.pointer (some ⟨p, 0, none⟩), .slice ga gn gc] 88) := ⟨_, rfl⟩
  have hB0 : Below w.heap.size w W := by rw [hW]; exact (Below.refl _ _).alloc (Nat.le_refl _) _
  have g1 : W.heap[w.heap.size]? = some (.cells #[.pointer (some ⟨p, 0, none⟩), .slice ga gn gc] 88 (0, 0)) := by rw [hW]; exact heap_alloc_new w _
  obtain ⟨c0, -, -⟩ := pair_cells g1
  have hA' := hA.later hB0
  have htn := (Cs.half_lt hv hh).2
  have HT : Hid (Calls Try.prog 60 #[.pointer (some ⟨p, 0, none⟩), .int .i64 (h : Int)] W fun e w' => e = .returned (.int .i64 (Cs.to es h : Int)) ∧ w' = W) := by
    have := to_any _ n es (h : Int) W hA'
    rw [Cs.toI_in hh] at this
    exact this
  have HD : Hid (Calls Try.prog 51 #[.pointer (some ⟨p, 0, none⟩), .int .i64 (Cs.to es h : Int)] W fun e w' => e = .returned (.int .i64 (Ku.dg es (Cs.to es h) : Int)) ∧ w' = W) := by
    have := degree_any _ n es (Cs.to es h : Int) W hA'
    rw [Ku.deg_in htn] at this
    exact this
  have HB := Nu.hid hB0
  have HW := Nu.hid hW
  have HC0 := Nu.hid c0
  have hd := (Ku.nxt_none hh).1 hk
  obtain ⟨dv, hdv⟩ : ∃ dv, (Ku.dg es (Cs.to es h) : Int) = dv := ⟨_, rfl⟩
  rw [hdv] at HD
  have t1 : (dv != 2) = true := by rw [← hdv]; simp; omega
  clear hA hA' hB0 g1 hd hdv hk htn
  rw [hW] at c0
  clear hW
  go_enter Try.func59, Try.ntmps59
  go_wp2_with (go_at_call 60; rw [← HW.out]; refine HT.out.mono ?_; rintro e w1 ⟨rfl, hw1⟩; obtain rfl := hw1.symm; refine Hid.out ?_)
  refine Nu.hid ?_
  clear c0
  have c0 := HC0.out
  go_wp2_with (go_at_call 51; refine HD.out.mono ?_; rintro e w1 ⟨rfl, hw2⟩; obtain rfl := hw2.symm; refine Hid.out ?_)
  refine Nu.hid ?_
  go_wp2
  go_ret2
  exact ⟨rfl, HB.out⟩

set_option maxRecDepth 100000 in
set_option maxHeartbeats 4000000 in
theorem von_yes (p n : Nat) (es : List (Int × Int)) (ga : Option Addr) (gn gc h k : Nat) (w : World) (hA : IsAdj w (.pointer (some ⟨p, 0, none⟩)) n es) (hv : Si.Val n es) (hh : h < 2 * es.length) (hk : Ku.nxt es h = some k) :
    Calls Try.prog 59 #[.agg #[.pointer (some ⟨p, 0, none⟩), .slice ga gn gc], .int .i64 (h : Int)] w fun e w' => e = .returned (.tuple #[.int .i64 (k : Int), .bool true]) ∧ Below w.heap.size w w' := by
  obtain ⟨W, hW⟩ : ∃ W, W = w.alloc (.cells #[.pointer (some ⟨p, 0, none⟩), .slice ga gn gc] 88) := ⟨_, rfl⟩
  have hB0 : Below w.heap.size w W := by rw [hW]; exact (Below.refl _ _).alloc (Nat.le_refl _) _
  have g1 : W.heap[w.heap.size]? = some (.cells #[.pointer (some ⟨p, 0, none⟩), .slice ga gn gc] 88 (0, 0)) := by rw [hW]; exact heap_alloc_new w _
  obtain ⟨c0, -, -⟩ := pair_cells g1
  have hA' := hA.later hB0
  have htn := (Cs.half_lt hv hh).2
  have HT : Hid (Calls Try.prog 60 #[.pointer (some ⟨p, 0, none⟩), .int .i64 (h : Int)] W fun e w' => e = .returned (.int .i64 (Cs.to es h : Int)) ∧ w' = W) := by
    have := to_any _ n es (h : Int) W hA'
    rw [Cs.toI_in hh] at this
    exact this
  have HD : Hid (Calls Try.prog 51 #[.pointer (some ⟨p, 0, none⟩), .int .i64 (Cs.to es h : Int)] W fun e w' => e = .returned (.int .i64 (Ku.dg es (Cs.to es h) : Int)) ∧ w' = W) := by
    have := degree_any _ n es (Cs.to es h : Int) W hA'
    rw [Ku.deg_in htn] at this
    exact this
  have HB := Nu.hid hB0
  have HW := Nu.hid hW
  have HC0 := Nu.hid c0
  have hd : Ku.dg es (Cs.to es h) = 2 := Classical.byContradiction fun hc => by
    have := (Ku.nxt_none hh).2 hc
    rw [hk] at this
    cases this
  rw [hd] at HD
  obtain ⟨hcase, hne⟩ := Ku.nxt_some hk
  have hx : bits .xor .i64 (h : Int) 1 = (Cs.twin h : Int) := Cs.xor_twin h (by have := hv.few; omega)
  have HF := Nu.hid (first_any _ n es (Cs.to es h : Int) W hA')
  have HAF : Hid (∀ q, Calls Try.prog 70 #[.pointer (some ⟨p, 0, none⟩), .int .i64 (Cs.twin h : Int)] (W.drewN q) fun e w' => e = .returned (.int .i64 (Cs.afterI n es (Cs.twin h : Int))) ∧ ∃ k, w' = (W.drewN q).drewN k) := fun q => after_any _ n es (Cs.twin h : Int) (W.drewN q) (hA'.later (Ku.drN _ q))
  have hd2 : ∀ q, (W.drewN q).cell? ⟨w.heap.size, 0, none⟩ = some (.pointer (some ⟨p, 0, none⟩)) := fun q => ((Ku.drN W q).cell (p := ⟨w.heap.size, 0, none⟩) (block_lt_of_cell c0)).trans c0
  have HD2 := Nu.hid hd2
  have HBQ1 : Hid (∀ q, Below w.heap.size w (W.drewN q)) := fun q => hB0.trans ((Ku.drN W q).mono hB0.size)
  rcases hcase with he | he
  · rw [Ku.first_twin htn he] at HF
    rw [Ku.after_twin hh htn he] at HAF
    have t2 : ((Cs.twin h : Int) == (Cs.twin h : Int)) = true := by simp
    clear hA hA' hB0 g1 hd hk htn he hne hd2
    rw [hW] at c0
    clear hW
    go_enter Try.func59, Try.ntmps59
    go_wp2_with (go_at_call 60; rw [← HW.out]; refine HT.out.mono ?_; rintro e w1 ⟨rfl, hw1⟩; obtain rfl := hw1.symm; refine Hid.out ?_)
    refine Nu.hid ?_
    clear c0
    have c0 := HC0.out
    go_wp2_with (go_at_call 51; refine HD.out.mono ?_; rintro e w1 ⟨rfl, hw2⟩; obtain rfl := hw2.symm; refine Hid.out ?_)
    refine Nu.hid ?_
    go_wp2_with (go_at_call 69; refine HF.out.mono ?_; rintro e w1 ⟨rfl, q, rfl⟩; refine Hid.out ?_)
    refine Nu.hid ?_
    have d2 := HD2.out q
    go_wp2_with (go_at_call 70; refine (HAF.out q).mono ?_; rintro e w1 ⟨rfl, q', rfl⟩; refine Hid.out ?_)
    refine Nu.hid ?_
    go_wp2
    go_ret2
    exact ⟨rfl, HBQ1.out _⟩
  · rw [Ku.first_next htn he] at HF
    have t2 : ((k : Int) == (Cs.twin h : Int)) = false := by simp; omega
    clear hA hA' hB0 g1 hd hk htn he hne hd2
    rw [hW] at c0
    clear hW
    go_enter Try.func59, Try.ntmps59
    go_wp2_with (go_at_call 60; rw [← HW.out]; refine HT.out.mono ?_; rintro e w1 ⟨rfl, hw1⟩; obtain rfl := hw1.symm; refine Hid.out ?_)
    refine Nu.hid ?_
    clear c0
    have c0 := HC0.out
    go_wp2_with (go_at_call 51; refine HD.out.mono ?_; rintro e w1 ⟨rfl, hw2⟩; obtain rfl := hw2.symm; refine Hid.out ?_)
    refine Nu.hid ?_
    go_wp2_with (go_at_call 69; refine HF.out.mono ?_; rintro e w1 ⟨rfl, q, rfl⟩; refine Hid.out ?_)
    refine Nu.hid ?_
    go_wp2
    go_ret2
    exact ⟨rfl, HBQ1.out _⟩


namespace Ku
/-- What on answers. -/
def OnP (es : List (Int × Int)) (h : Nat) (w : World) (e : Ending) (w' : World) : Prop := ∃ (k : Nat) (b : Bool), e = .returned (.tuple #[.int .i64 (k : Int), .bool b]) ∧ ((b = true ∧ nxt es h = some k) ∨ (b = false ∧ nxt es h = none ∧ k = 0)) ∧ Below w.heap.size w w'
end Ku

theorem von_any (p n : Nat) (es : List (Int × Int)) (ga : Option Addr) (gn gc h : Nat) (w : World) (hA : IsAdj w (.pointer (some ⟨p, 0, none⟩)) n es) (hv : Si.Val n es) (hh : h < 2 * es.length) :
    Calls Try.prog 59 #[.agg #[.pointer (some ⟨p, 0, none⟩), .slice ga gn gc], .int .i64 (h : Int)] w (Ku.OnP es h w) := by
  cases hk : Ku.nxt es h with
  | none =>
    refine (von_no p n es ga gn gc h w hA hv hh hk).mono ?_
    rintro e w' ⟨rfl, hb⟩
    exact ⟨0, false, rfl, .inr ⟨rfl, hk, rfl⟩, hb⟩
  | some k =>
    refine (von_yes p n es ga gn gc h k w hA hv hh hk).mono ?_
    rintro e w' ⟨rfl, hb⟩
    exact ⟨k, true, rfl, .inl ⟨rfl, hk⟩, hb⟩

namespace Ku
section
variable {es : List (Int × Int)} {n : Int} {hv : Si.Val n es}
/-- A half-edge from which the chain of e goes. -/
def BegOk (es : List (Int × Int)) {n : Int} (hv : Si.Val n es) (e b : Nat) : Prop := b < 2 * es.length ∧ (∃ x ∈ all (gs es hv).toSys b, x / 2 = e) ∧ (Opn (gs es hv).toSys (all (gs es hv).toSys b) ∨ (b = 2 * e ∧ Cyc (gs es hv).toSys (all (gs es hv).toSys b)))
theorem begok_open {e j x : Nat} (he : e < es.length) (hx : (all (gs es hv).toSys (Cs.twin (2 * e)))[j]? = some x) (hn : nxt es x = none) : BegOk es hv e (Cs.twin x) := by
  have hh : 2 * e < (gs es hv).toSys.M := show 2 * e < 2 * es.length by omega
  have hh' : Cs.twin (2 * e) < (gs es hv).toSys.M := Cs.twin_lt hh
  have hj := all_none hh' hx hn
  obtain ⟨h1, h2, h3⟩ := beg_open (S := gs es hv) (h0 := 2 * e) (x := x) hh (show (all (gs es hv).toSys (Cs.twin (2 * e)))[(all (gs es hv).toSys (Cs.twin (2 * e))).length - 1]? = some x by rw [show (all (gs es hv).toSys (Cs.twin (2 * e))).length - 1 = j by omega]; exact hx) hn
  exact ⟨h1, ⟨2 * e, h3, by omega⟩, .inl h2⟩
theorem begok_round {e j x : Nat} (he : e < es.length) (hx : (all (gs es hv).toSys (Cs.twin (2 * e)))[j]? = some x) (hn : nxt es x = some (Cs.twin (2 * e))) : BegOk es hv e (2 * e) := by
  have hh : 2 * e < (gs es hv).toSys.M := show 2 * e < 2 * es.length by omega
  have hh' : Cs.twin (2 * e) < (gs es hv).toSys.M := Cs.twin_lt hh
  have hj := all_back hh' hx hn
  have h2 := beg_round (S := gs es hv) (h0 := 2 * e) (x := x) hh (show (all (gs es hv).toSys (Cs.twin (2 * e)))[(all (gs es hv).toSys (Cs.twin (2 * e))).length - 1]? = some x by rw [show (all (gs es hv).toSys (Cs.twin (2 * e))).length - 1 = j by omega]; exact hx) hn
  exact ⟨hh, ⟨2 * e, List.mem_of_getElem? (all_zero hh), by omega⟩, .inr ⟨rfl, h2⟩⟩
theorem twin_even (e : Nat) : Cs.twin (2 * e) = 2 * e + 1 := by unfold Cs.twin; rw [if_pos (by omega)]
theorem twin_odd (e : Nat) : Cs.twin (2 * e + 1) = 2 * e := by unfold Cs.twin; rw [if_neg (by omega)]; omega
end
/-- What begin answers. -/
def BegP (es : List (Int × Int)) {n : Int} (hv : Si.Val n es) (e0 : Nat) (w : World) (e : Ending) (w' : World) : Prop := ∃ b : Nat, e = .returned (.int .i64 (b : Int)) ∧ BegOk es hv e0 b ∧ Below w.heap.size w w'
end Ku

set_option maxRecDepth 100000 in
set_option maxHeartbeats 4000000 in
theorem vbegin_any (p n : Nat) (es : List (Int × Int)) (ga : Option Addr) (gn gc e0 : Nat) (w : World) (hA : IsAdj w (.pointer (some ⟨p, 0, none⟩)) n es) (hv : Si.Val (n : Int) es) (he : e0 < es.length) :
    Calls Try.prog 45 #[.agg #[.pointer (some ⟨p, 0, none⟩), .slice ga gn gc], .int .i64 (e0 : Int)] w (Ku.BegP es hv e0 w) := by
  obtain ⟨W, hW⟩ : ∃ W, W = w.alloc (.cells #[.pointer (some ⟨p, 0, none⟩), .slice ga gn gc] 88) := ⟨_, rfl⟩
  have hB0 : Below w.heap.size w W := by rw [hW]; exact (Below.refl _ _).alloc (Nat.le_refl _) _
  have g1 : W.heap[w.heap.size]? = some (.cells #[.pointer (some ⟨p, 0, none⟩), .slice ga gn gc] 88 (0, 0)) := by rw [hW]; exact heap_alloc_new w _
  obtain ⟨c0, c1, -⟩ := pair_cells g1
  have hfew := hv.few
  obtain ⟨bk, hbk⟩ : ∃ bk : Nat, bk = 2 * e0 + 1 := ⟨_, rfl⟩
  have hbk2 : Cs.twin (2 * e0) = bk := by rw [Ku.twin_even, hbk]
  obtain ⟨T, hT⟩ : ∃ T, Ku.all (Ku.gs es hv).toSys bk = T := ⟨_, rfl⟩
  have hbM : bk < (Ku.gs es hv).toSys.M := show bk < 2 * es.length by omega
  have hTlt := (Ku.all_spec hbM).2.2.1
  have HZ0 := Nu.hid (Ku.all_zero hbM)
  have HGO : Hid (∀ j x k, T[j]? = some x → Ku.nxt es x = some k → k ≠ bk → T[j + 1]? = some k) := fun j x k hx e hk => by rw [← hT] at hx ⊢; exact Ku.all_go hbM hx e hk
  have HOPEN : Hid (∀ j x, T[j]? = some x → Ku.nxt es x = none → Ku.BegOk es hv e0 (Cs.twin x)) := fun j x hx e => Ku.begok_open he (by rw [hbk2, hT]; exact hx) e
  have HROUND : Hid (∀ j x, T[j]? = some x → Ku.nxt es x = some bk → Ku.BegOk es hv e0 (2 * e0)) := fun j x hx e => Ku.begok_round he (by rw [hbk2, hT]; exact hx) (by rw [hbk2]; exact e)
  have HLT : Hid (∀ j x, T[j]? = some x → x < 2 * es.length) := fun j x hx => hTlt x (by rw [hT]; exact List.mem_of_getElem? hx)
  rw [hT] at HZ0
  have HON : Hid (∀ (h : Nat) (U : World), h < 2 * es.length → Below W.heap.size W U → Calls Try.prog 59 #[.agg #[.pointer (some ⟨p, 0, none⟩), .slice ga gn gc], .int .i64 (h : Int)] U (Ku.OnP es h U)) := fun h U hh hU => von_any p n es ga gn gc h U ((hA.later hB0).later hU) hv hh
  have HX : Hid (∀ h : Nat, h < 2 * es.length → bits .xor .i64 (h : Int) 1 = (Cs.twin h : Int)) := fun h hh => Cs.xor_twin h (by omega)
  have hwa : IntKind.i64.wrap (2 * (e0 : Int)) = 2 * (e0 : Int) := by rw [IntKind.wrap_i64]; omega
  have hwb : IntKind.i64.wrap (2 * (e0 : Int) + 1) = (bk : Int) := by rw [IntKind.wrap_i64]; omega
  have hxb : bits .xor .i64 (bk : Int) 1 = ((2 * e0 : Nat) : Int) := by rw [HX.out bk (by omega), hbk, Ku.twin_odd]
  have HB0 := Nu.hid hB0
  have HG := Nu.hid g1
  have HW := Nu.hid hW
  have hbl : bk < 2 * es.length := hbM
  have HO0 := Nu.hid (HON.out bk W hbl (Below.refl _ _))
  clear hA hB0 g1 hbk hbk2 hT hbM hTlt
  rw [hW] at c0 c1
  clear hW
  go_enter Try.func45, Try.ntmps45
  go_wp2_with (go_at_call 59; rw [← HW.out]; refine HO0.out.mono ?_; refine Hid.out ?_)
  refine Nu.hid ?_
  rintro e w1 ⟨k0, b0, rfl, hc0, hb1⟩
  have HC0 := Nu.hid hc0
  have HB1 := Nu.hid hb1
  clear c0 c1 hc0 hb1
  go_wp2
  go_loopg [6, 7, 8] T.length (fun d s6 s7 s8 wr => ∃ (j x k : Nat) (b : Bool), T[j]? = some x ∧ T.length - j ≤ d ∧ s6 = .int .i64 (x : Int) ∧ s7 = .int .i64 (k : Int) ∧ s8 = .bool b ∧ ((b = true ∧ Ku.nxt es x = some k) ∨ (b = false ∧ Ku.nxt es x = none ∧ k = 0)) ∧ Below W.heap.size W wr)
  case atStart => exact ⟨0, bk, k0, b0, HZ0.out, by omega, rfl, rfl, rfl, HC0.out, HB1.out⟩
  case round =>
    obtain ⟨j, x, k, b, hx, hd, rfl, rfl, rfl, hc, hb⟩ := hrel
    obtain ⟨U, rfl⟩ : ∃ U, U = wr := ⟨wr, rfl⟩
    have HXX := Nu.hid hx
    have HB := Nu.hid hb
    have hxl := HLT.out j x hx
    rcases hc with ⟨rfl, hk⟩ | ⟨rfl, hk, rfl⟩
    · have HK := Nu.hid hk
      by_cases hkb : k = bk
      · have t1 : ((k : Int) == (bk : Int)) = true := by simp [hkb]
        have HF := Nu.hid (HROUND.out j x hx (by rw [hk, hkb]))
        obtain rfl := hkb
        clear hx hb hk
        go_wp2
        go_ret
        exact ⟨2 * e0, rfl, HF.out, HB0.out.trans (HB.out.mono HB0.out.size)⟩
      · have t1 : ((k : Int) == (bk : Int)) = false := by simp; omega
        have HN := Nu.hid (HGO.out j x k hx hk hkb)
        have hkl := HLT.out _ _ HN.out
        have HOK := Nu.hid (HON.out k U hkl hb)
        obtain ⟨c0, c1, -⟩ := pair_cells ((hb.block _ (lt_of_block HG.out)).trans HG.out)
        have hjl := (List.getElem?_eq_some_iff.1 HN.out).1
        clear hx hb hk hkb
        go_wp2_with (go_at_call 59; refine HOK.out.mono ?_; refine Hid.out ?_)
        refine Nu.hid ?_
        rintro e w2 ⟨k2, b2, rfl, hc2, hb2⟩
        have HC2 := Nu.hid hc2
        have HB2 := Nu.hid (HB.out.trans (hb2.mono HB.out.size))
        clear c0 c1 hc2 hb2
        go_wp2
        go_roundg (T.length - (j + 1))
        case measure => omega
        case rel => exact ⟨j + 1, k, k2, b2, HN.out, Nat.le_refl _, rfl, rfl, rfl, HC2.out, HB2.out⟩
    · have HF := Nu.hid (HOPEN.out j x hx hk)
      have hxt := HX.out x hxl
      clear hx hb hk
      go_wp2
      go_ret
      exact ⟨Cs.twin x, rfl, HF.out, HB0.out.trans (HB.out.mono HB0.out.size)⟩

end Go.Proofs.Ytdhaaodalchpkaa
