import Derived.Test.YtmgoahbloppdmaaGreatMg31
/-
  The document's ordered: the walk.
-/
namespace Go.Proofs.YtmgoahbloppdmaaGreat
open Go.RowKit

theorem Tryz.infoBl : (Tryz.prog.info? 4).map (fun i => (i.zero, i.size, i.bytes)) = some (some (.bool false), 1, 1) := by kernel_rfl
theorem made_bl (n : Nat) : (madeCells #[.bool false] n) = (List.replicate n (Value.bool false)).toArray := by
  apply Array.ext'
  rw [toList_madeCells_one]

theorem getD_ofB {l : List Bool} {i : Nat} (h : i < l.length) : l[i]? = some (l.getD i false) := by
  rw [List.getD_eq_getElem?_getD, List.getElem?_eq_getElem h]
  rfl

def slen : Value → Nat
  | .slice _ n _ => n
  | _ => 0

section
variable {w : World} {n : Nat} {ao : Option Addr} {ca : Nat} {es : List (Int × Int)} {f : For} {s : Df.St}

set_option maxRecDepth 100000 in
set_option maxHeartbeats 16000000 in
theorem rordered_any (he : EdgesAt w ao es) (hv : Si.Val n es) (hF : LstF w f s) (hL : Df.Lens n es s) (hh : Df.Hang n es s) :
    Calls Tryz.prog 30 #[.agg #[.int .i64 (n : Int), .slice ao es.length ca], f.val s] w (BoolPost (Df.Once n s n ∧ ∃ q, Df.side n es s n = some q) w) := by
  obtain ⟨i0, hi, hz0, hz1, hz2⟩ := info_parts Tryz.infoNum
  obtain ⟨i1, hi1, hy0, hy1, hy2⟩ := info_parts Tryz.infoBl
  obtain ⟨l1, l2, l3, l4⟩ := hL
  have hn1 := hF.n1
  have hnn := hv.hi
  have hn20 : n ≤ 1048576 := by omega
  obtain ⟨W, hW⟩ : ∃ W, W = bxw w n ao ca es f s := ⟨_, rfl⟩
  have hbx : BxAt w W n ao ca es f s := by rw [hW]; exact BxAt.new
  have hsz : W.heap.size = w.heap.size + 2 := by rw [hW]; simp
  have HBX := Nu.hid hbx
  have HF : Hid (∀ V, BxAt w V n ao ca es f s → LstF V f s) := fun V hV => hF.later hV.bel
  have HUP : Hid (∀ V (z : Nat), BxAt w V n ao ca es f s → z < n → Calls Tryz.prog 51 #[.agg #[.int .i64 (n : Int), .slice ao es.length ca], .agg #[.slice f.a1 s.par.length f.c1, .slice f.a2 s.hei.length f.c2, .slice f.a3 s.ord.length f.c3, .slice f.a4 s.ori.length f.c4], .int .i64 (z : Int)] V fun e w' => e = .returned (.int .i64 (Df.up es s z)) ∧ Below V.heap.size V w') := fun V z hV hz => rup_any n ao ca es f s z V (he.later hV.bel) hv (hF.later hV.bel) l1 hz (hh z hz).par
  have HUC : Hid (∀ z : Nat, z < n → (Df.up es s z = -1) ∨ ∃ y : Nat, y < n ∧ Df.up es s z = (y : Int)) := fun z hz => by
    rcases (hh z hz).cases hv with ⟨_, h, _⟩ | ⟨y, h1, h2, _⟩
    · exact .inl h
    · exact .inr ⟨y, h1, h2⟩
  have hmkI : ∀ V, (Instr.makeSlice 25 (.int .i64 0) (.int .i64 (n : Int))).run Tryz.prog V = .ok (.slice (some ⟨V.heap.size, 0, none⟩) 0 n) (V.alloc (.cells (madeCells #[.int .i64 0] n) 3)) := fun V => by
    have := run_make (P := Tryz.prog) V 25 3 i0 (.int .i64 0) Tryz.underlying25 hi hz0 .i64 .i64 0 (n : Int) (by omega) (by omega) (by rw [hz2]; omega) (by omega)
    rw [this, hz1]
    simp [Value.cells]
  have hmkb : ∀ V, (Instr.makeSlice 84 (.int .i64 (n : Int)) (.int .i64 (n : Int))).run Tryz.prog V = .ok (.slice (some ⟨V.heap.size, 0, none⟩) n n) (V.alloc (.cells (Array.replicate n (Value.bool false)) 4)) := fun V => by
    have := run_make (P := Tryz.prog) V 84 4 i1 (.bool false) Tryz.underlying84 hi1 hy0 .i64 .i64 (n : Int) (n : Int) (by omega) (Int.le_refl _) (by rw [hy2]; omega) (by omega)
    rw [this, hy1]
    simp [Value.cells, made_bl]
  obtain ⟨w2, hw2⟩ : ∃ w2, w2 = (W.alloc (.cells (Array.replicate n (Value.bool false)) 4)).alloc (.cells (madeCells #[.int .i64 0] n) 3) := ⟨_, rfl⟩
  have hst : OrdAt w w2 n ao ca es f s W.heap.size (W.heap.size + 1) n (List.replicate n false) [] := by
    have hb2 : Below W.heap.size W w2 := by rw [hw2]; exact ((Below.refl _ _).alloc (Nat.le_refl _) _).alloc (by simp) _
    refine ⟨hbx.later hb2, ?_, ?_, by omega, by omega⟩
    · unfold BoolsBlk
      rw [hw2, Below.heap_alloc _ _ _ (by simp), heap_alloc_new, List.map_replicate]
      simp
    · have h1 : IntsBlk w2 (W.heap.size + 1) (List.replicate n 0) := by rw [hw2]; exact made_blk (by simp)
      have h2 := h1.own (B := w.heap.size + 2) (n := n) (by omega) (by simp) (by omega)
      exact h2.take0 (by simp)
  have HST := Nu.hid hst
  have HW2 := Nu.hid hw2
  have HSZ := Nu.hid hsz
  obtain ⟨a1, a2, a3, a4, c1, c2, c3, c4⟩ := f
  unfold For.val
  unfold bxw at hW
  dsimp only at hW HUP ⊢
  rw [l1, l2, l3, l4] at hW HUP ⊢
  have HW := Nu.hid hW
  have x0 := hbx.x0
  rw [hW] at x0
  clear hF hW hbx he hv hh hst hw2 hsz
  go_enter Tryz.func30, Tryz.ntmps30
  go_wp2_with fail
  rw [← HW.out, ← HW2.out]
  clear x0 hmkI hmkb
  generalize hgs : w.heap.size + 1 + 1 = gs
  have HST' : Hid (OrdAt w w2 n ao ca es ⟨a1, a2, a3, a4, c1, c2, c3, c4⟩ s gs (gs + 1) n (List.replicate n false) []) := by
    have h := HST.out
    rw [HSZ.out, (by omega : w.heap.size + 2 = gs)] at h
    exact h
  have HGS := Nu.hid hgs
  clear hgs
  go_loopw [6, 7] (fun c6 c7 wr => ∃ (k g c : Nat) (S : List Bool) (Y B : List Int), k ≤ n ∧ c7 = .int .i64 k ∧ c6 = .slice (some ⟨g, 0, none⟩) Y.length c ∧ Hid (Df.Once n s k ∧ Df.SeenTo n s k S ∧ Df.side n es s k = some (Y, B) ∧ (∀ x ∈ Y, 0 ≤ x) ∧ Y.length ≤ k) ∧ OrdAt w wr n ao ca es ⟨a1, a2, a3, a4, c1, c2, c3, c4⟩ s gs g c S Y) (fun _ c7 _ => n - (intOf c7).toNat)
  case atStart => exact ⟨0, gs + 1, n, _, [], _, Nat.zero_le _, rfl, rfl, ⟨fun i hi => (by omega), Df.SeenTo.start n s, rfl, by simp, Nat.le_refl _⟩, HST'.out⟩
  case round =>
    obtain ⟨k, g, c, S, Y, B, hk, rfl, rfl, HP, ho⟩ := hrel
    have HO := Nu.hid ho
    have x0 := ho.bx.x0
    have x1 := ho.bx.x1
    have k0 := ho.bx.k0
    have k1 := ho.bx.k1
    have k2 := ho.bx.k2
    have k3 := ho.bx.k3
    dsimp only at k0 k1 k2 k3
    rw [l1] at k0
    rw [l2] at k1
    rw [l3] at k2
    rw [l4] at k3
    by_cases hlt : k < n
    · obtain ⟨b3, o3, e3, d3⟩ := lst_at (HF.out wr ho.bx).l3 (i := k) (by omega)
      dsimp only at e3
      subst e3
      obtain ⟨x, hx⟩ : ∃ x, s.ord.getD k (-1) = x := ⟨_, rfl⟩
      rw [hx] at d3
      have HX : Hid (Df.at_ s.ord k = x) := hx
      have v0 : (0 : Int) ≤ (k : Int) := by omega
      have v1 : (k : Int) < (n : Int) := by omega
      have HLT := Nu.hid hlt
      by_cases hx0 : 0 ≤ x
      · by_cases hxn : x < (n : Int)
        · obtain ⟨v, rfl⟩ : ∃ v : Nat, x = (v : Int) := ⟨x.toNat, by omega⟩
          have hvn : v < n := by omega
          obtain ⟨b, hb⟩ : ∃ b, S.getD v false = b := ⟨_, rfl⟩
          have hSl := HP.out.2.1.1
          have sc := ho.sb.cell (i := v) (x := b) (by rw [← hb]; exact getD_ofB (by omega))
          have t0 : decide ((v : Int) < 0) = false := by simp
          have t1 : decide ((n : Int) ≤ (v : Int)) = false := by simp; omega
          cases b with
          | true =>
            have HNO : Hid (¬ Df.Once n s n) := fun h => by
              obtain ⟨a, ha, e⟩ := (HP.out.2.1.2 v hvn).1 hb
              exact (h k hlt).2 a ha (by rw [e, HX.out])
            clear hb hSl ho hx hlt
            go_wp2
            go_ret
            exact ⟨false, rfl, ⟨fun h => (by cases h), fun h => absurd h.1 HNO.out⟩, HO.out.bx.bel⟩
          | false =>
            have hm := ho.mark v
            have HM := Nu.hid hm
            have HCU := Nu.hid (HUP.out _ v hm.bx hvn)
            have HONE : Hid (Df.Once n s (k + 1) ∧ Df.SeenTo n s (k + 1) (S.set v true)) := ⟨HP.out.1.step HP.out.2.1 HX.out hvn hb, HP.out.2.1.step HX.out hvn⟩
            have sf := ho.sb.free v
            have y0 := hm.bx.x0
            have y1 := hm.bx.x1
            have q0 := hm.bx.k0
            have q1 := hm.bx.k1
            have q2 := hm.bx.k2
            have q3 := hm.bx.k3
            dsimp only at q0 q1 q2 q3
            rw [l1] at q0
            rw [l2] at q1
            rw [l3] at q2
            rw [l4] at q3
            have hcb := HP.out.2.2.2.2
            rcases HUC.out v hvn with hup | ⟨p, hpn, hup⟩
            · rw [hup] at HCU
              have HUPV := Nu.hid hup
              clear hb hSl ho hx hlt hm hup
              go_wp2_with (go_at_call 51; refine HCU.out.mono ?_; rintro e w3 ⟨rfl, hb3⟩; have HB3 := Nu.hid hb3; clear hb3)
              go_loopw [6] (fun c6 wr => c6 = .slice (some ⟨g, 0, none⟩) 0 c ∧ wr = w3) (fun _ _ => 0)
              case atStart => exact ⟨rfl, rfl⟩
              case round =>
                obtain ⟨rfl, rfl⟩ := hrel
                have HO3 : Hid (OrdAt w wr n ao ca es ⟨a1, a2, some ⟨b3, o3, none⟩, a4, c1, c2, c3, c4⟩ s gs g c (S.set v true) []) := (HM.out.later HB3.out).clear
                have HSZ3 : Hid (w.heap.size + 2 ≤ wr.heap.size) := show _ ≤ _ from lt_of_block HO3.out.bx.k
                have HROW : Hid (wr.ownsRow (w.heap.size + 2) 3 1 (.slice (some ⟨g, 0, none⟩) 0 c) 0 []) := HO3.out.ow
                go_wp2_with (at_builtin; refine Hid.out ?_)
                refine Nu.hid ?_
                refine wpList_append_own_at _ rfl _ _ 25 rfl (w.heap.size + 2) 3 i0 (.int .i64 0) 1 8 Tryz.underlying25 hi hz0 hz1 hz2 rfl (by decide) _ _ _ rfl (World.ownsRow.alloc HROW.out _) ⟨wr.heap.size, 0, none⟩ 1 1 [.int .i64 (v : Int)] rfl rfl (cell_one_new _ _ _) (by simp [Value.oneCell']) (by unfold maxLen; omega) (by omega) (by rw [World.size_alloc]; have := HSZ3.out; omega) ?_
                intro v' w1 hown hg _ hat
                obtain ⟨g', c', rfl, hnew⟩ := HO3.out.pushed (x := (v : Int)) (v' := v') hown hg (by have h := hat; simp only [World.size_alloc] at h; exact h)
                have HNEW := Nu.hid hnew
                have HFIN : Hid (∃ B', Df.side n es s (k + 1) = some ([(v : Int)], B')) := by
                  have h1 := HP.out.2.2
                  have e1 : Df.lv (-1) Y = [] := by
                    rw [← Df.lv_eq (i := 0) Y []]
                    exact Df.leave_none h1.2.1
                  have h2 := Df.side_succ h1.1 HX.out HUPV.out (by simp)
                  rw [e1] at h2
                  exact h2
                clear hown hg hat hnew
                go_wp2
                go_roundw
                case rel =>
                  obtain ⟨B', hB'⟩ := HFIN.out
                  refine ⟨k + 1, g', c', S.set v true, [(v : Int)], B', by have := HLT.out; omega, by go_num, rfl, ⟨HONE.out.1, HONE.out.2, hB', by simp, by simp⟩, HNEW.out⟩
                case measure => simp [intOf]; omega
            · rw [hup] at HCU
              have HUPV := Nu.hid hup
              have p0 : (0 : Int) ≤ (p : Int) := by omega
              clear hb hSl ho hx hlt hm hup
              go_wp2_with (go_at_call 51; refine HCU.out.mono ?_; rintro e w3 ⟨rfl, hb3⟩; have HB3 := Nu.hid hb3; clear hb3)
              go_loopw [6] (fun c6 wr => wr = w3 ∧ ∃ Z : List Int, c6 = .slice (some ⟨g, 0, none⟩) Z.length c ∧ Z.length ≤ k ∧ Hid (OrdAt w w3 n ao ca es ⟨a1, a2, some ⟨b3, o3, none⟩, a4, c1, c2, c3, c4⟩ s gs g c (S.set v true) Z ∧ Df.lv p Z = Df.lv p Y ∧ (∀ x ∈ Z, 0 ≤ x))) (fun c6 _ => slen c6)
              case atStart => exact ⟨rfl, Y, rfl, hcb, HM.out.later HB3.out, rfl, HP.out.2.2.2.1⟩
              case round =>
                obtain ⟨rfl, Z, rfl, hZk, HZ⟩ := hrel
                cases Z with
                | nil =>
                  have HNO : Hid (Df.side n es s n = none) := by
                    have h1 := Df.side_stop HP.out.2.2.1 HX.out HUPV.out (by omega) (by rw [← HZ.out.2.1]; rfl)
                    have h2 := Df.side_none h1 (n - (k + 1))
                    rw [show k + 1 + (n - (k + 1)) = n by have := HLT.out; omega] at h2
                    exact h2
                  go_wp2
                  go_ret
                  refine ⟨false, rfl, ⟨fun h => (by cases h), fun h => ?_⟩, HZ.out.1.bx.bel⟩
                  obtain ⟨_, q, h2⟩ := h
                  rw [HNO.out] at h2
                  cases h2
                | cons x Z =>
                  obtain ⟨z1, z2⟩ := HZ.out.1.top
                  obtain ⟨q, hq⟩ : ∃ q, Z.length = q := ⟨_, rfl⟩
                  have hlen : (x :: Z).length = q + 1 := by simp [hq]
                  rw [hq] at z1 z2
                  rw [hlen] at hZk
                  have e1 : ((q : Int) + 1) - 1 = (q : Int) := by omega
                  have e2 : (0 : Int) ≤ (q : Int) := by omega
                  have e3 : (q : Int) ≤ (c : Int) := by omega
                  have e4 : (q : Int) < (q : Int) + 1 := by omega
                  have e5 : (0 : Int) < (q : Int) + 1 := by omega
                  rw [hlen]
                  by_cases hxp : x = (p : Int)
                  · have t5 : (x != (p : Int)) = false := by simp [hxp]
                    have t6 : ((q : Int) + 1 == 0) = false := by simp; omega
                    have HO3 : Hid (OrdAt w wr n ao ca es ⟨a1, a2, some ⟨b3, o3, none⟩, a4, c1, c2, c3, c4⟩ s gs g c (S.set v true) (x :: Z)) := HZ.out.1
                    have HFIN : Hid (∃ B', Df.side n es s (k + 1) = some ((v : Int) :: x :: Z, B')) := by
                      have h3 : Df.lv p Y = x :: Z := by rw [← HZ.out.2.1, hxp, Df.lv_hit]
                      have h2 := Df.side_succ HP.out.2.2.1 HX.out HUPV.out (by rw [h3]; simp)
                      rw [h3] at h2
                      exact h2
                    have HLEN : Hid ((x :: Z).length = q + 1) := hlen
                    have HSZ3 : Hid (w.heap.size + 2 ≤ wr.heap.size) := show _ ≤ _ from lt_of_block HO3.out.bx.k
                    have HROW : Hid (wr.ownsRow (w.heap.size + 2) 3 1 (.slice (some ⟨g, 0, none⟩) (q + 1) c) (q + 1) ((x :: Z).reverse.map (Value.int .i64))) := by
                      have h := HO3.out.ow
                      unfold OwnZ at h
                      rw [List.length_reverse, hlen] at h
                      exact h
                    clear hxp hlen hq
                    go_wp2_with (at_builtin; refine Hid.out ?_)
                    refine Nu.hid ?_
                    refine wpList_append_own_at _ rfl _ _ 25 rfl (w.heap.size + 2) 3 i0 (.int .i64 0) 1 8 Tryz.underlying25 hi hz0 hz1 hz2 rfl (by decide) _ _ _ rfl (World.ownsRow.alloc HROW.out _) ⟨wr.heap.size, 0, none⟩ 1 1 [.int .i64 (v : Int)] rfl rfl (cell_one_new _ _ _) (by simp [Value.oneCell']) (by unfold maxLen; omega) (by omega) (by rw [World.size_alloc]; have := HSZ3.out; omega) ?_
                    intro v' w1 hown hg _ hat
                    have hown2 : OwnZ w1 (w.heap.size + 2) v' ((x :: Z).reverse ++ [(v : Int)]) := by
                      unfold OwnZ
                      rw [List.length_append, List.length_reverse, HLEN.out, List.map_append]
                      exact hown
                    have hbk : ∀ l, Value.ownBlock (.slice (some ⟨g, 0, none⟩) l c) = some g := fun l => rfl
                    obtain ⟨g', c', rfl, hnew⟩ := HO3.out.pushed (x := (v : Int)) (v' := v') hown2 (by rw [hbk]; exact hg) (by have h := hat; simp only [World.size_alloc] at h; rw [hbk]; exact h)
                    have HNEW := Nu.hid hnew
                    have hl2 : (x :: Z).length + 1 = q + 1 + 1 := by rw [HLEN.out]
                    rw [hl2]
                    clear hown hg hat hnew hown2 hl2
                    go_wp2
                    go_roundw
                    case rel =>
                      obtain ⟨B', hB'⟩ := HFIN.out
                      refine ⟨k + 1, g', c', S.set v true, (v : Int) :: x :: Z, B', by have := HLT.out; omega, by go_num, by rw [List.length_cons, HLEN.out], ⟨HONE.out.1, HONE.out.2, hB', ?_, by rw [List.length_cons, HLEN.out]; omega⟩, HNEW.out⟩
                      intro z hz
                      rcases List.mem_cons.1 hz with rfl | hz
                      · omega
                      · exact HZ.out.2.2 z hz
                    case measure => simp [intOf]; omega
                  · have t5 : (x != (p : Int)) = true := by simp [hxp]
                    have HZ2 : Hid (OrdAt w wr n ao ca es ⟨a1, a2, some ⟨b3, o3, none⟩, a4, c1, c2, c3, c4⟩ s gs g c (S.set v true) Z ∧ Df.lv p Z = Df.lv p Y ∧ (∀ x ∈ Z, 0 ≤ x)) := ⟨HZ.out.1.pop, by rw [← HZ.out.2.1, Df.lv_miss hxp], fun z hz => HZ.out.2.2 z (List.mem_cons_of_mem _ hz)⟩
                    have HQ := Nu.hid hq
                    clear hxp hlen hq
                    go_wp2
                    go_roundw
                    case rel =>
                      exact ⟨trivial, Z, by rw [HQ.out], by rw [HQ.out]; omega, HZ2.out⟩
                    case measure => simp [slen]
        · have HNO : Hid (¬ Df.Once n s n) := fun h => by
            have := (h k hlt).1
            rw [HX.out] at this
            omega
          have t0 : decide (x < 0) = false := by simp; omega
          have t1 : decide ((n : Int) ≤ x) = true := by simp; omega
          clear ho hx hlt hx0 hxn
          go_wp2
          go_ret
          exact ⟨false, rfl, ⟨fun h => (by cases h), fun h => absurd h.1 HNO.out⟩, HO.out.bx.bel⟩
      · have HNO : Hid (¬ Df.Once n s n) := fun h => by
          have := (h k hlt).1
          rw [HX.out] at this
          omega
        have t0 : decide (x < 0) = true := by simp; omega
        clear ho hx hlt hx0
        go_wp2
        go_ret
        exact ⟨false, rfl, ⟨fun h => (by cases h), fun h => absurd h.1 HNO.out⟩, HO.out.bx.bel⟩
    · have hd : ¬ ((k : Int) < (n : Int)) := by omega
      have HK : Hid (k = n) := show k = n by omega
      clear ho
      go_wp2
      go_ret
      refine ⟨true, rfl, ⟨fun _ => ?_, fun _ => rfl⟩, HO.out.bx.bel⟩
      obtain ⟨h1, _, h3, _⟩ := HP.out
      have hkn := HK.out
      rw [hkn] at h1 h3
      exact ⟨h1, Y, B, h3⟩
end

end Go.Proofs.YtmgoahbloppdmaaGreat
