import Derived.Test.YtmgoahbloppdmaaGreatMg16
import Derived.Test.YtmgoahbloppdmaaGreatMg27
import Derived.Test.YtmgoahbloppdmaaGreatMg11
import Derived.Test.YtmgoahbloppdmaaGreatMg09
import Derived.Test.YtmgoahbloppdmaaGreatMg04
import Derived.Test.YtmgoahbloppdmaaGreatMg25
import Derived.Test.YtmgoahbloppdmaaGreatMg05
import Derived.Test.YtmgoahbloppdmaaGreatMg02
/-
  The program's Returns of layer 8.
-/
namespace Go.Proofs.YtmgoahbloppdmaaGreat
open Go.RowKit

set_option maxRecDepth 100000 in
set_option maxHeartbeats 16000000 in
theorem pret_any (n : Int) (ao : Option Addr) (cap : Nat) (es : List (Int × Int)) (f : For) (s : Df.St) (x : Int) (w : World) (he : EdgesAt w ao es) (hl : es.length ≤ 4611686018427387904) (hF : LstF w f s) (hcap : s.ord.length ≤ f.c3) :
    Calls Tryz.prog 11 #[.agg #[.int .i64 n, .slice ao es.length cap], f.val s, .int .i64 x] w (RetPost n es s x w) := by
  obtain ⟨W, hW⟩ : ∃ W, W = (w.alloc (.cells #[.int .i64 n, .slice ao es.length cap] 24)).alloc (.cells #[.slice f.a1 s.par.length f.c1, .slice f.a2 s.hei.length f.c2, .slice f.a3 s.ord.length f.c3, .slice f.a4 s.ori.length f.c4] 27) := ⟨_, rfl⟩
  have hB0 : Below w.heap.size w W := by rw [hW]; exact ((Below.refl _ _).alloc (Nat.le_refl _) _).alloc (by simp) _
  have g1 : W.heap[w.heap.size]? = some (.cells #[.int .i64 n, .slice ao es.length cap] 24 (0, 0)) := by
    rw [hW, Below.heap_alloc _ _ _ (by simp)]
    exact heap_alloc_new w _
  have g2 : W.heap[w.heap.size + 1]? = some (.cells #[.slice f.a1 s.par.length f.c1, .slice f.a2 s.hei.length f.c2, .slice f.a3 s.ord.length f.c3, .slice f.a4 s.ori.length f.c4] 27 (0, 0)) := by
    rw [hW]
    exact alloc_at (by simp)
  have HRD : Hid (Calls Tryz.prog 19 #[.agg #[.int .i64 n, .slice ao es.length cap], .agg #[.slice f.a1 s.par.length f.c1, .slice f.a2 s.hei.length f.c2, .slice f.a3 s.ord.length f.c3, .slice f.a4 s.ori.length f.c4]] W fun e w' => ∃ q z, e = .returned (.tuple #[.pointer q, .int .i64 z]) ∧ ((Si.valid n es = false ∧ z = 1) ∨ (Si.valid n es = true ∧ ¬ IsVF n es s ∧ z = 80) ∨ ∃ (p m : Nat) (av : Value), n = (m : Int) ∧ q = some ⟨p, 0, none⟩ ∧ z = 0 ∧ Wd w' p av m es f s) ∧ Below W.heap.size W w') := (read8_any n ao cap es f s W (he.later hB0) hl (hF.later hB0)).mono fun e w' ⟨h, hb⟩ => by
    rcases h with ⟨h1, h2⟩ | ⟨h1, h2, h3⟩ | ⟨p, m, av, h1, h2, h3⟩
    · exact ⟨_, _, h2, .inl ⟨h1, rfl⟩, hb⟩
    · exact ⟨_, _, h3, .inr (.inl ⟨h1, h2, rfl⟩), hb⟩
    · exact ⟨_, _, h2, .inr (.inr ⟨p, m, av, h1, rfl, rfl, h3⟩), hb⟩
  obtain ⟨x0, x1, -⟩ := pair_cells g1
  obtain ⟨k0, k1, k2, k3, -⟩ := four_cells g2
  have HB0 := Nu.hid hB0
  have HWW := Nu.hid hW
  rw [hW] at x0 x1 k0 k1 k2 k3
  unfold For.val
  clear hB0 g1 g2 he hW hF
  go_enter Tryz.func11, Tryz.ntmps11
  go_wp2_with (go_at_call 19; rw [← HWW.out]; refine HRD.out.mono ?_; rintro e w1 ⟨q, z, rfl, hq, hb1⟩; refine Hid.out ?_)
  refine Nu.hid ?_
  clear x0 x1 k0 k1 k2 k3
  have hB1 : Below w.heap.size w w1 := HB0.out.trans (hb1.mono HB0.out.size)
  rcases hq with ⟨hno, rfl⟩ | ⟨hno1, hno, rfl⟩ | ⟨p, m, av, hnm, rfl, rfl, hwd⟩
  · have HB1 := Nu.hid hB1
    have HNO := Nu.hid hno
    clear hB1 hno hb1
    go_wp2
    go_ret2
    exact ⟨_, [], _, rfl, .inl ⟨HNO.out, rfl, rfl⟩, .nil _ _, HB1.out⟩
  · have HB1 := Nu.hid hB1
    have HNO := Nu.hid hno
    have HNO1 := Nu.hid hno1
    clear hB1 hno hno1 hb1
    go_wp2
    go_ret2
    exact ⟨_, [], _, rfl, .inr (.inl ⟨HNO1.out, HNO.out, rfl, rfl⟩), .nil _ _, HB1.out⟩
  · have HB1 := Nu.hid hB1
    have c0 := hwd.c0
    have HWD := Nu.hid hwd
    have HM := Nu.hid (aM_any av m es w1 hwd.adj)
    have HIV : Hid (IsVF n es s) := ⟨m, hnm, hwd.val, hwd.vf⟩
    have HPR : Hid (∀ e : Nat, e < es.length → Calls Tryz.prog 25 #[.pointer (some ⟨p, 0, none⟩), .int .i64 (e : Int)] w1 (RetsPost (Lo.rets es s e) w1)) := fun e he => preturns_any e w1 hwd he (by rw [hwd.vf.lens.2.2.1] at hcap; exact hcap)
    clear hB1 hb1 hwd
    by_cases h1 : x < 0
    · go_wp2_with (go_at_call 24; refine HM.out.mono ?_; rintro e w2 ⟨rfl, rfl⟩)
      go_ret2
      exact ⟨_, [], _, rfl, .inr (.inr (.inl ⟨HIV.out, by omega, rfl, rfl⟩)), .nil _ _, HB1.out⟩
    · by_cases h2 : (es.length : Int) ≤ x
      · go_wp2_with (go_at_call 24; refine HM.out.mono ?_; rintro e w2 ⟨rfl, rfl⟩)
        go_ret2
        exact ⟨_, [], _, rfl, .inr (.inr (.inl ⟨HIV.out, by omega, rfl, rfl⟩)), .nil _ _, HB1.out⟩
      · obtain ⟨e, rfl⟩ : ∃ e : Nat, x = (e : Int) := ⟨x.toNat, by omega⟩
        have hel : e < es.length := by omega
        have HP := Nu.hid (HPR.out e hel)
        go_wp2_with (first | (go_at_call 24; refine HM.out.mono ?_; rintro r w2 ⟨rfl, rfl⟩) | (go_at_call 25; refine HP.out.mono ?_; rintro r w3 ⟨v, rfl, ho, hb3⟩))
        go_ret2
        exact ⟨v, _, _, rfl, .inr (.inr (.inr ⟨e, HIV.out, rfl, hel, rfl, rfl⟩)), ho.lower HB1.out.size, HB1.out.trans (hb3.mono HB1.out.size)⟩

end Go.Proofs.YtmgoahbloppdmaaGreat

/-
  Lists that are alike are the same.
-/
namespace Go.Proofs.YtmgoahbloppdmaaGreat
open Go.RowKit

theorem same_true {w : World} {ao bo : Option Addr} {n ca cb : Nat} {l : List Int} (h : Lst w ao n ca l) (h' : Lst w bo n cb l) (hn : n ≤ 17592186043904) :
    Calls Tryz.prog 12 #[.slice ao n ca, .slice bo n cb] w fun e w' => e = .returned (.bool true) ∧ Below w.heap.size w w' :=
  (sameints_any ao bo ca cb n n l l w h.len h'.len h.ints h'.ints (by omega)).mono (by
    rintro e w' ⟨h1, h2⟩
    rw [decide_eq_true rfl] at h1
    exact ⟨h1, h2⟩)

end Go.Proofs.YtmgoahbloppdmaaGreat

/-
  That the fixed fact of layer 8's statements is true.
-/
namespace Go.Proofs.YtmgoahbloppdmaaGreat
open Go.RowKit Go.Sort

/-- An int block, behind other allocations. -/
theorem blk_of {W : World} {g : Nat} {l : List Int} (h : W.heap[g]? = some (.cells (l.map (Value.int .i64)).toArray 3 (0, 0))) : IntsBlk W g l := h

/-- Four lists of one number each, laid as a literal. -/
theorem lists4 (W : World) (x0 x1 x2 x3 : Int) :
    RowsZ (((((W.alloc (.cells #[.int .i64 x0] 3)).alloc (.cells #[.int .i64 x1] 3)).alloc (.cells #[.int .i64 x2] 3)).alloc (.cells #[.int .i64 x3] 3)).alloc (.cells #[.slice (some ⟨W.heap.size, 0, none⟩) 1 1, .slice (some ⟨W.heap.size + 1, 0, none⟩) 1 1, .slice (some ⟨W.heap.size + 1 + 1, 0, none⟩) 1 1, .slice (some ⟨W.heap.size + 1 + 1 + 1, 0, none⟩) 1 1] 25)) W.heap.size
      (.slice (some ⟨W.heap.size + 1 + 1 + 1 + 1, 0, none⟩) 4 4) [.slice (some ⟨W.heap.size, 0, none⟩) 1 1, .slice (some ⟨W.heap.size + 1, 0, none⟩) 1 1, .slice (some ⟨W.heap.size + 1 + 1, 0, none⟩) 1 1, .slice (some ⟨W.heap.size + 1 + 1 + 1, 0, none⟩) 1 1] [[x0], [x1], [x2], [x3]] := by
  obtain ⟨Z, hZ⟩ : ∃ Z, Z = ((((W.alloc (.cells #[.int .i64 x0] 3)).alloc (.cells #[.int .i64 x1] 3)).alloc (.cells #[.int .i64 x2] 3)).alloc (.cells #[.int .i64 x3] 3)).alloc (.cells #[.slice (some ⟨W.heap.size, 0, none⟩) 1 1, .slice (some ⟨W.heap.size + 1, 0, none⟩) 1 1, .slice (some ⟨W.heap.size + 1 + 1, 0, none⟩) 1 1, .slice (some ⟨W.heap.size + 1 + 1 + 1, 0, none⟩) 1 1] 25) := ⟨_, rfl⟩
  rw [← hZ]
  have i0 : IntsBlk Z W.heap.size [x0] := by
    refine blk_of ?_
    rw [hZ, Below.heap_alloc _ _ _ (by simp <;> omega), Below.heap_alloc _ _ _ (by simp <;> omega), Below.heap_alloc _ _ _ (by simp <;> omega), Below.heap_alloc _ _ _ (by simp)]
    exact heap_alloc_new W _
  have i1 : IntsBlk Z (W.heap.size + 1) [x1] := by
    refine blk_of ?_
    rw [hZ, Below.heap_alloc _ _ _ (by simp <;> omega), Below.heap_alloc _ _ _ (by simp <;> omega), Below.heap_alloc _ _ _ (by simp)]
    exact alloc_at (by simp)
  have i2 : IntsBlk Z (W.heap.size + 1 + 1) [x2] := by
    refine blk_of ?_
    rw [hZ, Below.heap_alloc _ _ _ (by simp <;> omega), Below.heap_alloc _ _ _ (by simp)]
    exact alloc_at (by simp)
  have i3 : IntsBlk Z (W.heap.size + 1 + 1 + 1) [x3] := by
    refine blk_of ?_
    rw [hZ, Below.heap_alloc _ _ _ (by simp)]
    exact alloc_at (by simp)
  have o : Z.heap[W.heap.size + 1 + 1 + 1 + 1]? = some (.cells #[.slice (some ⟨W.heap.size, 0, none⟩) 1 1, .slice (some ⟨W.heap.size + 1, 0, none⟩) 1 1, .slice (some ⟨W.heap.size + 1 + 1, 0, none⟩) 1 1, .slice (some ⟨W.heap.size + 1 + 1 + 1, 0, none⟩) 1 1] 25 (0, 0)) := by
    rw [hZ]
    exact alloc_at (by simp)
  refine ⟨rfl, ⟨rfl, .inr ⟨_, 4, _, rfl, by omega, o, by simp, by unfold maxLen; omega, by simp, by simp⟩⟩, fun u x l hx hl => ?_, fun u u' x x' b hne hx hx' hb => ?_, fun u x b hx hb => ?_⟩
  · match u, hx, hl with
    | 0, hx, hl => cases hx; cases hl; exact i0.own (by omega) rfl (by omega)
    | 1, hx, hl => cases hx; cases hl; exact i1.own (by omega) rfl (by omega)
    | 2, hx, hl => cases hx; cases hl; exact i2.own (by omega) rfl (by omega)
    | 3, hx, hl => cases hx; cases hl; exact i3.own (by omega) rfl (by omega)
  · have key : ∀ (u : Nat) (x : Value) (b : Nat), ([.slice (some ⟨W.heap.size, 0, none⟩) 1 1, .slice (some ⟨W.heap.size + 1, 0, none⟩) 1 1, .slice (some ⟨W.heap.size + 1 + 1, 0, none⟩) 1 1, .slice (some ⟨W.heap.size + 1 + 1 + 1, 0, none⟩) 1 1] : List Value)[u]? = some x → x.ownBlock = some b → b = W.heap.size + u := fun u x b hx hb => by
      match u, hx with
      | 0, hx => cases hx; cases hb; rfl
      | 1, hx => cases hx; cases hb; rfl
      | 2, hx => cases hx; cases hb; rfl
      | 3, hx => cases hx; cases hb; rfl
    intro hb'
    have h1 := key u x b hx hb
    have h2 := key u' x' b hx' hb'
    omega
  · have h4 : (Value.slice (some ⟨W.heap.size + 1 + 1 + 1 + 1, 0, none⟩) 4 4).ownBlock = some (W.heap.size + 1 + 1 + 1 + 1) := rfl
    rw [h4]
    intro e
    have e := Option.some.inj e
    match u, hx with
    | 0, hx => cases hx; have hb : W.heap.size = b := Option.some.inj hb; omega
    | 1, hx => cases hx; have hb : W.heap.size + 1 = b := Option.some.inj hb; omega
    | 2, hx => cases hx; have hb : W.heap.size + 1 + 1 = b := Option.some.inj hb; omega
    | 3, hx => cases hx; have hb : W.heap.size + 1 + 1 + 1 = b := Option.some.inj hb; omega

set_option maxRecDepth 100000 in
set_option maxHeartbeats 8000000 in
theorem fixed8_any (w : World) : Calls Tryz.prog 6 #[] w fun e w' => e = .returned (.bool true) ∧ Below w.heap.size w w' := by
  obtain ⟨W, hW⟩ : ∃ W, W = ((((((w.alloc (.cells #[.int .i64 0, .int .i64 1, .int .i64 0, .int .i64 3, .int .i64 1, .int .i64 2, .int .i64 2, .int .i64 3] 47)).alloc (.cells #[.int .i64 4, .slice (some ⟨w.heap.size, 0, none⟩) 4 4] 24)).alloc (.cells #[.int .i64 (-1), .int .i64 0, .int .i64 4, .int .i64 6] 3)).alloc (.cells #[.int .i64 0, .int .i64 1, .int .i64 2, .int .i64 3] 3)).alloc (.cells #[.int .i64 0, .int .i64 1, .int .i64 2, .int .i64 3] 3)).alloc (.cells #[.int .i64 0, .int .i64 3, .int .i64 4, .int .i64 6] 3)).alloc (.cells #[.slice (some ⟨w.heap.size + 1 + 1, 0, none⟩) 4 4, .slice (some ⟨w.heap.size + 1 + 1 + 1, 0, none⟩) 4 4, .slice (some ⟨w.heap.size + 1 + 1 + 1 + 1, 0, none⟩) 4 4, .slice (some ⟨w.heap.size + 1 + 1 + 1 + 1 + 1, 0, none⟩) 4 4] 27) := ⟨_, rfl⟩
  have hB0 : Below w.heap.size w W := by rw [hW]; exact (((((((Below.refl _ _).alloc (Nat.le_refl _) _).alloc (by simp) _).alloc (by simp <;> omega) _).alloc (by simp <;> omega) _).alloc (by simp <;> omega) _).alloc (by simp <;> omega) _).alloc (by simp <;> omega) _
  have hsz : W.heap.size = w.heap.size + 7 := by rw [hW]; simp
  have g0 : W.heap[w.heap.size]? = some (.cells #[.int .i64 0, .int .i64 1, .int .i64 0, .int .i64 3, .int .i64 1, .int .i64 2, .int .i64 2, .int .i64 3] 47 (0, 0)) := by
    rw [hW, Below.heap_alloc _ _ _ (by simp <;> omega), Below.heap_alloc _ _ _ (by simp <;> omega), Below.heap_alloc _ _ _ (by simp <;> omega), Below.heap_alloc _ _ _ (by simp <;> omega), Below.heap_alloc _ _ _ (by simp <;> omega), Below.heap_alloc _ _ _ (by simp)]
    exact heap_alloc_new w _
  have g1 : W.heap[w.heap.size + 1]? = some (.cells #[.int .i64 4, .slice (some ⟨w.heap.size, 0, none⟩) 4 4] 24 (0, 0)) := by
    rw [hW, Below.heap_alloc _ _ _ (by simp <;> omega), Below.heap_alloc _ _ _ (by simp <;> omega), Below.heap_alloc _ _ _ (by simp <;> omega), Below.heap_alloc _ _ _ (by simp <;> omega), Below.heap_alloc _ _ _ (by simp)]
    exact alloc_at (by simp)
  have g2 : IntsBlk W (w.heap.size + 1 + 1) [-1, 0, 4, 6] := by
    refine blk_of ?_
    rw [hW, Below.heap_alloc _ _ _ (by simp <;> omega), Below.heap_alloc _ _ _ (by simp <;> omega), Below.heap_alloc _ _ _ (by simp <;> omega), Below.heap_alloc _ _ _ (by simp)]
    exact alloc_at (by simp)
  have g3 : IntsBlk W (w.heap.size + 1 + 1 + 1) [0, 1, 2, 3] := by
    refine blk_of ?_
    rw [hW, Below.heap_alloc _ _ _ (by simp <;> omega), Below.heap_alloc _ _ _ (by simp <;> omega), Below.heap_alloc _ _ _ (by simp)]
    exact alloc_at (by simp)
  have g4 : IntsBlk W (w.heap.size + 1 + 1 + 1 + 1) [0, 1, 2, 3] := by
    refine blk_of ?_
    rw [hW, Below.heap_alloc _ _ _ (by simp <;> omega), Below.heap_alloc _ _ _ (by simp)]
    exact alloc_at (by simp)
  have g5 : IntsBlk W (w.heap.size + 1 + 1 + 1 + 1 + 1) [0, 3, 4, 6] := by
    refine blk_of ?_
    rw [hW, Below.heap_alloc _ _ _ (by simp)]
    exact alloc_at (by simp)
  have g6 : W.heap[w.heap.size + 1 + 1 + 1 + 1 + 1 + 1]? = some (.cells #[.slice (some ⟨w.heap.size + 1 + 1, 0, none⟩) 4 4, .slice (some ⟨w.heap.size + 1 + 1 + 1, 0, none⟩) 4 4, .slice (some ⟨w.heap.size + 1 + 1 + 1 + 1, 0, none⟩) 4 4, .slice (some ⟨w.heap.size + 1 + 1 + 1 + 1 + 1, 0, none⟩) 4 4] 27 (0, 0)) := by
    rw [hW]
    exact alloc_at (by simp)
  have hE : EdgesAt W (some ⟨w.heap.size, 0, none⟩) Lo.es4 := fun j p hj => by
    refine ⟨w.heap.size, 0, rfl, ?_⟩
    match j, hj with
    | 0, hj => cases hj; simp [World.cell?, g0]
    | 1, hj => cases hj; simp [World.cell?, g0]
    | 2, hj => cases hj; simp [World.cell?, g0]
    | 3, hj => cases hj; simp [World.cell?, g0]
  have hF : LstF W ⟨some ⟨w.heap.size + 1 + 1, 0, none⟩, some ⟨w.heap.size + 1 + 1 + 1, 0, none⟩, some ⟨w.heap.size + 1 + 1 + 1 + 1, 0, none⟩, some ⟨w.heap.size + 1 + 1 + 1 + 1 + 1, 0, none⟩, 4, 4, 4, 4⟩ Lo.s4 := ⟨g2.lst rfl, g3.lst rfl, g4.lst rfl, g5.lst rfl, by decide, by decide, by decide, by decide⟩
  have HBOX : Hid (∀ V, Below W.heap.size W V → (V.cell? ⟨w.heap.size + 1, 0, none⟩ = some (.int .i64 4) ∧ V.cell? ⟨w.heap.size + 1, 1, none⟩ = some (.slice (some ⟨w.heap.size, 0, none⟩) 4 4)) ∧ (V.cell? ⟨w.heap.size + 1 + 1 + 1 + 1 + 1 + 1, 0, none⟩ = some (.slice (some ⟨w.heap.size + 1 + 1, 0, none⟩) 4 4) ∧ V.cell? ⟨w.heap.size + 1 + 1 + 1 + 1 + 1 + 1, 1, none⟩ = some (.slice (some ⟨w.heap.size + 1 + 1 + 1, 0, none⟩) 4 4) ∧ V.cell? ⟨w.heap.size + 1 + 1 + 1 + 1 + 1 + 1, 2, none⟩ = some (.slice (some ⟨w.heap.size + 1 + 1 + 1 + 1, 0, none⟩) 4 4) ∧ V.cell? ⟨w.heap.size + 1 + 1 + 1 + 1 + 1 + 1, 3, none⟩ = some (.slice (some ⟨w.heap.size + 1 + 1 + 1 + 1 + 1, 0, none⟩) 4 4))) := fun V hV => by
    obtain ⟨x0, x1, -⟩ := pair_cells ((hV.block (w.heap.size + 1) (by omega)).trans g1)
    obtain ⟨q0, q1, q2, q3, -⟩ := four_cells ((hV.block (w.heap.size + 1 + 1 + 1 + 1 + 1 + 1) (by omega)).trans g6)
    exact ⟨⟨x0, x1⟩, q0, q1, q2, q3⟩
  have HOF : Hid (Calls Tryz.prog 8 #[.agg #[.int .i64 4, .slice (some ⟨w.heap.size, 0, none⟩) 4 4], .agg #[.slice (some ⟨w.heap.size + 1 + 1, 0, none⟩) 4 4, .slice (some ⟨w.heap.size + 1 + 1 + 1, 0, none⟩) 4 4, .slice (some ⟨w.heap.size + 1 + 1 + 1 + 1, 0, none⟩) 4 4, .slice (some ⟨w.heap.size + 1 + 1 + 1 + 1 + 1, 0, none⟩) 4 4]] W fun e w' => ∃ a1 c1 a2 c2 a3 c3 ao c4 vs, e = .returned (.tuple #[.agg #[.slice a1 4 c1, .slice a2 4 c2, .slice a3 4 c3, .slice ao 4 c4], .int .i64 0]) ∧ Lst w' a1 4 c1 [0, 0, 0, 0] ∧ Lst w' a2 4 c2 [0, 3, 1, 2] ∧ RowsZ w' W.heap.size (.slice ao 4 c4) vs [[0], [4], [6], [3]] ∧ Below W.heap.size W w') := by
    have := pof_new 4 (some ⟨w.heap.size, 0, none⟩) 4 Lo.es4 ⟨some ⟨w.heap.size + 1 + 1, 0, none⟩, some ⟨w.heap.size + 1 + 1 + 1, 0, none⟩, some ⟨w.heap.size + 1 + 1 + 1 + 1, 0, none⟩, some ⟨w.heap.size + 1 + 1 + 1 + 1 + 1, 0, none⟩, 4, 4, 4, 4⟩ Lo.s4 W hE (by decide) hF
    refine this.mono ?_
    intro e w' hp
    obtain ⟨v1, v2, v3, vo, vs, A1, A2, A3, ls, z, rfl, hI, o1, o2, o3, o4, hb⟩ := hp.low
    obtain ⟨rfl, rfl, rfl, rfl, rfl⟩ := Lo.lowIs4 hI
    obtain ⟨a1, c1, rfl, l1, _⟩ := o1.lst
    obtain ⟨a2, c2, rfl, l2, _⟩ := o2.lst
    obtain ⟨a3, c3, e3, _⟩ := o3.lst
    rw [upTo_len] at e3
    subst e3
    obtain ⟨ao, c4, rfl⟩ := row_shape o4
    exact ⟨a1, c1, a2, c2, a3, c3, ao, c4, vs, rfl, l1, l2, o4, hb⟩
  have HRT : Hid (∀ V, Below W.heap.size W V → Calls Tryz.prog 11 #[.agg #[.int .i64 4, .slice (some ⟨w.heap.size, 0, none⟩) 4 4], .agg #[.slice (some ⟨w.heap.size + 1 + 1, 0, none⟩) 4 4, .slice (some ⟨w.heap.size + 1 + 1 + 1, 0, none⟩) 4 4, .slice (some ⟨w.heap.size + 1 + 1 + 1 + 1, 0, none⟩) 4 4, .slice (some ⟨w.heap.size + 1 + 1 + 1 + 1 + 1, 0, none⟩) 4 4], .int .i64 2] V fun e w' => ∃ a1 c1, e = .returned (.tuple #[.slice a1 1 c1, .int .i64 0]) ∧ Lst w' a1 1 c1 [1] ∧ Below V.heap.size V w') := fun V hV => by
    have := pret_any 4 (some ⟨w.heap.size, 0, none⟩) 4 Lo.es4 ⟨some ⟨w.heap.size + 1 + 1, 0, none⟩, some ⟨w.heap.size + 1 + 1 + 1, 0, none⟩, some ⟨w.heap.size + 1 + 1 + 1 + 1, 0, none⟩, some ⟨w.heap.size + 1 + 1 + 1 + 1 + 1, 0, none⟩, 4, 4, 4, 4⟩ Lo.s4 2 V (hE.later hV) (by decide) (hF.later hV) (Nat.le_refl 4)
    refine this.mono ?_
    rintro e w' ⟨v, l, z, rfl, hI, ho, hb⟩
    obtain ⟨rfl, rfl⟩ := Lo.retIs4 hI
    obtain ⟨a1, c1, rfl, l1, _⟩ := ho.lst
    exact ⟨a1, c1, rfl, l1, hb⟩
  have HB0 := Nu.hid hB0
  have HWW := Nu.hid hW
  obtain ⟨⟨x0, x1⟩, q0, q1, q2, q3⟩ := HBOX.out W (Below.refl _ _)
  rw [hW] at x0 x1 q0 q1 q2 q3
  clear hB0 hE hF g0 g1 g2 g3 g4 g5 g6 hW
  go_enter Tryz.func6, Tryz.ntmps6
  go_wp2_with (go_at_call 8; rw [← HWW.out]; refine HOF.out.mono ?_; rintro e w1 ⟨a1, c1, a2, c2, a3, c3, ao, c4, vs, rfl, l1, l2, l4, hb1⟩; refine Hid.out ?_)
  refine Nu.hid ?_
  have hs1 := hb1.size
  obtain ⟨w2, hw2⟩ : ∃ w2, w2 = w1.alloc (.cells #[.slice a1 4 c1, .slice a2 4 c2, .slice a3 4 c3, .slice ao 4 c4] 31) := ⟨_, rfl⟩
  have hb2 : Below w1.heap.size w1 w2 := by rw [hw2]; exact (Below.refl _ _).alloc (Nat.le_refl _) _
  have hs2 : w2.heap.size = w1.heap.size + 1 := by rw [hw2]; simp
  have hB2 : Below W.heap.size W w2 := hb1.trans (hb2.mono hb1.size)
  have lb2 : w2.heap[w1.heap.size]? = some (.cells #[.slice a1 4 c1, .slice a2 4 c2, .slice a3 4 c3, .slice ao 4 c4] 31 (0, 0)) := by rw [hw2]; exact heap_alloc_new w1 _
  have HRT2 := Nu.hid (HRT.out w2 hB2)
  have HLB : Hid (∀ V, Below w2.heap.size w2 V → (V.cell? ⟨w1.heap.size, 0, none⟩ = some (.slice a1 4 c1) ∧ V.cell? ⟨w1.heap.size, 1, none⟩ = some (.slice a2 4 c2) ∧ V.cell? ⟨w1.heap.size, 2, none⟩ = some (.slice a3 4 c3) ∧ V.cell? ⟨w1.heap.size, 3, none⟩ = some (.slice ao 4 c4)) ∧ Lst V a1 4 c1 [0, 0, 0, 0] ∧ Lst V a2 4 c2 [0, 3, 1, 2] ∧ RowsZ V W.heap.size (.slice ao 4 c4) vs [[0], [4], [6], [3]] ∧ Below w.heap.size w V) := fun V hV => by
    obtain ⟨p0, p1, p2, p3, -⟩ := four_cells ((hV.block _ (by omega)).trans lb2)
    have hb := hb2.trans (hV.mono hb2.size)
    exact ⟨⟨p0, p1, p2, p3⟩, l1.later hb, l2.later hb, l4.later hb, HB0.out.trans ((hb1.trans (hb.mono hb1.size)).mono HB0.out.size)⟩
  obtain ⟨⟨y0, y1⟩, z0, z1, z2, z3⟩ := HBOX.out w2 hB2
  rw [hw2] at y0 y1 z0 z1 z2 z3
  have HW2 := Nu.hid hw2
  clear hb1 hb2 hB2 lb2 l1 l2 l4 hw2 HOF HRT HBOX x0 x1 q0 q1 q2 q3
  go_wp2_with (go_at_call 11; rw [← HW2.out]; refine HRT2.out.mono ?_; rintro e w3 ⟨b1, d1, rfl, l5, hb3⟩; refine Hid.out ?_)
  refine Nu.hid ?_
  clear y0 y1 z0 z1 z2 z3
  obtain ⟨⟨p0, p1, p2, p3⟩, l1, l2, l4, -⟩ := HLB.out w3 hb3
  have hs3 := hb3.size
  have hb4 : Below w3.heap.size w3 (w3.alloc (.cells #[.int .i64 0, .int .i64 0, .int .i64 0, .int .i64 0] 3)) := (Below.refl _ _).alloc (Nat.le_refl _) _
  have hi4 : IntsBlk (w3.alloc (.cells #[.int .i64 0, .int .i64 0, .int .i64 0, .int .i64 0] 3)) w3.heap.size [0, 0, 0, 0] := heap_alloc_new w3 _
  have HC1 := Nu.hid (same_true (l1.later hb4) (hi4.lst (n := 4) (ca := 4) rfl) (by decide))
  have HB4 := Nu.hid hb4
  have HB3 := Nu.hid hb3
  have HL5 := Nu.hid l5
  clear l1 l2 l4 hb4 hi4 hb3 l5
  go_wp2_with (go_at_call 12; refine HC1.out.mono ?_; rintro e w5 ⟨rfl, hb5⟩; refine Hid.out ?_)
  refine Nu.hid ?_
  have hb35 := HB4.out.trans (hb5.mono HB4.out.size)
  have hb25 := HB3.out.trans (hb35.mono HB3.out.size)
  obtain ⟨⟨p0, p1, p2, p3⟩, l1, l2, l4, -⟩ := HLB.out w5 hb25
  have hs5 := hb25.size
  have hb6 : Below w5.heap.size w5 (w5.alloc (.cells #[.int .i64 0, .int .i64 3, .int .i64 1, .int .i64 2] 3)) := (Below.refl _ _).alloc (Nat.le_refl _) _
  have hi6 : IntsBlk (w5.alloc (.cells #[.int .i64 0, .int .i64 3, .int .i64 1, .int .i64 2] 3)) w5.heap.size [0, 3, 1, 2] := heap_alloc_new w5 _
  have HC2 := Nu.hid (same_true (l2.later hb6) (hi6.lst (n := 4) (ca := 4) rfl) (by decide))
  have HB6 := Nu.hid hb6
  have HB35 := Nu.hid hb35
  have HB25 := Nu.hid hb25
  clear l1 l2 l4 hb6 hi6 hb35 hb25 hb5 HC1 HB4
  go_wp2_with (go_at_call 12; refine HC2.out.mono ?_; rintro e w7 ⟨rfl, hb7⟩; refine Hid.out ?_)
  refine Nu.hid ?_
  have hb57 := HB6.out.trans (hb7.mono HB6.out.size)
  have hb37 := HB35.out.trans (hb57.mono HB35.out.size)
  have hb27 := HB25.out.trans (hb57.mono HB25.out.size)
  obtain ⟨⟨p0, p1, p2, p3⟩, l1, l2, l4, -⟩ := HLB.out w7 hb27
  have hs7 := hb27.size
  have hb8 : Below w7.heap.size w7 (w7.alloc (.cells #[.int .i64 1] 3)) := (Below.refl _ _).alloc (Nat.le_refl _) _
  have hi8 : IntsBlk (w7.alloc (.cells #[.int .i64 1] 3)) w7.heap.size [1] := heap_alloc_new w7 _
  have HC3 := Nu.hid (same_true (HL5.out.later (hb37.trans (hb8.mono hb37.size))) (hi8.lst (n := 1) (ca := 1) rfl) (by decide))
  have HB8 := Nu.hid hb8
  have HB27 := Nu.hid hb27
  clear l1 l2 l4 hb8 hi8 hb37 hb27 hb57 hb7 HC2 HB6
  go_wp2_with (go_at_call 12; refine HC3.out.mono ?_; rintro e w9 ⟨rfl, hb9⟩; refine Hid.out ?_)
  refine Nu.hid ?_
  have hb79 := HB8.out.trans (hb9.mono HB8.out.size)
  have hb29 := HB27.out.trans (hb79.mono HB27.out.size)
  obtain ⟨⟨p0, p1, p2, p3⟩, l1, l2, l4, hbel⟩ := HLB.out w9 hb29
  have hs9 := hb29.size
  have hrow := lists4 w9 0 4 6 3
  have hbz : Below w9.heap.size w9 (((((w9.alloc (.cells #[.int .i64 0] 3)).alloc (.cells #[.int .i64 4] 3)).alloc (.cells #[.int .i64 6] 3)).alloc (.cells #[.int .i64 3] 3)).alloc (.cells #[.slice (some ⟨w9.heap.size, 0, none⟩) 1 1, .slice (some ⟨w9.heap.size + 1, 0, none⟩) 1 1, .slice (some ⟨w9.heap.size + 1 + 1, 0, none⟩) 1 1, .slice (some ⟨w9.heap.size + 1 + 1 + 1, 0, none⟩) 1 1] 25)) := (((((Below.refl _ _).alloc (Nat.le_refl _) _).alloc (by simp) _).alloc (by simp <;> omega) _).alloc (by simp <;> omega) _).alloc (by simp <;> omega) _
  have HC4 := Nu.hid (samelists_any _ _ _ _ _ _ _ _ (l4.later hbz) hrow (by decide) (by decide))
  have HBEL := Nu.hid (hbel.trans (hbz.mono hbel.size))
  clear l1 l2 l4 hbel hrow hbz hb29 hb79 hb9 HC3 HB8
  go_wp2_with (go_at_call 14; refine HC4.out.mono ?_; rintro e w10 ⟨rfl, hb10⟩; have HB10 := Nu.hid hb10; clear hb10)
  go_ret
  exact ⟨rfl, HBEL.out.trans (HB10.out.mono HBEL.out.size)⟩

end Go.Proofs.YtmgoahbloppdmaaGreat

/-
  The document's own From and To of graphs that are valid.
-/
namespace Go.Proofs.YtmgoahbloppdmaaGreat
open Go.RowKit Go.Sort

/-- A half-edge's edge. -/
theorem half_edge {n : Nat} {es : List (Int × Int)} (hv : Si.Val n es) {j : Nat} (hj : j < 2 * es.length) : ∃ e, es[j / 2]? = some e ∧ Si.ok n e ∧ ((j % 2 = 0 ∧ (Cs.fr es j : Int) = e.1 ∧ (Cs.to es j : Int) = e.2) ∨ (j % 2 = 1 ∧ (Cs.fr es j : Int) = e.2 ∧ (Cs.to es j : Int) = e.1)) := by
  obtain ⟨e, he⟩ : ∃ e, es[j / 2]? = some e := ⟨_, List.getElem?_eq_getElem (by omega)⟩
  have hok := hv.each _ e he
  refine ⟨e, he, hok, ?_⟩
  unfold Si.ok at hok
  rcases Nat.mod_two_eq_zero_or_one j with h | h
  · left
    obtain ⟨g1, g2⟩ := Cs.fr_even he
    rw [show 2 * (j / 2) = j by omega] at g1 g2
    exact ⟨h, by omega, by omega⟩
  · right
    obtain ⟨g1, g2⟩ := Cs.fr_odd he
    rw [show 2 * (j / 2) + 1 = j by omega] at g1 g2
    exact ⟨h, by omega, by omega⟩

set_option maxRecDepth 100000 in
set_option maxHeartbeats 4000000 in
theorem r4from_any (n : Nat) (ao : Option Addr) (ca : Nat) (es : List (Int × Int)) (j : Nat) (w : World) (he : EdgesAt w ao es) (hv : Si.Val n es) (hj : j < 2 * es.length) :
    Calls Tryz.prog 50 #[.agg #[.int .i64 (n : Int), .slice ao es.length ca], .int .i64 (j : Int)] w fun e w' => e = .returned (.int .i64 (Cs.fr es j : Int)) ∧ Below w.heap.size w w' := by
  have hb0 : Below w.heap.size w (w.alloc (.cells #[.int .i64 (n : Int), .slice ao es.length ca] 24)) := (Below.refl _ _).alloc (Nat.le_refl _) _
  have hfew := hv.few
  obtain ⟨e, hee, hok, hpar⟩ := half_edge hv hj
  obtain ⟨b, o, rfl, c0, c1⟩ := (he.later hb0) (j / 2) e hee
  obtain ⟨jh, hjh⟩ : ∃ jh, jh = j / 2 := ⟨_, rfl⟩
  rw [← hjh] at c0 c1 hee
  have hj0 : (0 : Int) ≤ (j : Int) := by omega
  have htd : (j : Int).tdiv 2 = (jh : Int) := by rw [Int.tdiv_eq_ediv_of_nonneg hj0]; omega
  have htd2 : (j : Int) / 2 = (jh : Int) := by omega
  have hjd : j / 2 = jh := hjh.symm
  have hj2 : (0 : Int) ≤ (jh : Int) := by omega
  have hj3 : (jh : Int) < (es.length : Int) := by omega
  have HB0 := Nu.hid hb0
  rcases hpar with ⟨hm, hf, ht⟩ | ⟨hm, hf, ht⟩
  · have hm1 : (j : Int).tmod 2 = 0 := by rw [Int.tmod_eq_emod_of_nonneg hj0]; omega
    have hm2 : (j : Int) % 2 = 0 := by omega
    rw [hf]
    clear he hv hok hee hb0 hf ht hjh hm
    go_enter Tryz.func50, Tryz.ntmps50
    go_wp2
    go_ret
    exact ⟨rfl, HB0.out⟩
  · have hm1 : (j : Int).tmod 2 = 1 := by rw [Int.tmod_eq_emod_of_nonneg hj0]; omega
    have hm2 : (j : Int) % 2 = 1 := by omega
    rw [hf]
    clear he hv hok hee hb0 hf ht hjh hm
    go_enter Tryz.func50, Tryz.ntmps50
    go_wp2
    go_ret
    exact ⟨rfl, HB0.out⟩

set_option maxRecDepth 100000 in
set_option maxHeartbeats 4000000 in
theorem r4to_any (n : Nat) (ao : Option Addr) (ca : Nat) (es : List (Int × Int)) (j : Nat) (w : World) (he : EdgesAt w ao es) (hv : Si.Val n es) (hj : j < 2 * es.length) :
    Calls Tryz.prog 49 #[.agg #[.int .i64 (n : Int), .slice ao es.length ca], .int .i64 (j : Int)] w fun e w' => e = .returned (.int .i64 (Cs.to es j : Int)) ∧ Below w.heap.size w w' := by
  have hb0 : Below w.heap.size w (w.alloc (.cells #[.int .i64 (n : Int), .slice ao es.length ca] 24)) := (Below.refl _ _).alloc (Nat.le_refl _) _
  have hfew := hv.few
  have hxt := Cs.xor_twin j (by omega)
  have hfr := r4from_any n ao ca es (Cs.twin j) _ (he.later hb0) hv (Cs.twin_lt hj)
  rw [Cs.fr_twin] at hfr
  have HFR := Nu.hid hfr
  have HB0 := Nu.hid hb0
  clear he hv hb0 hfr
  go_enter Tryz.func49, Tryz.ntmps49
  go_wp2_with (go_at_call 50; refine HFR.out.mono ?_; rintro e w1 ⟨rfl, hb1⟩)
  go_ret
  exact ⟨rfl, HB0.out.trans (hb1.mono HB0.out.size)⟩

end Go.Proofs.YtmgoahbloppdmaaGreat
