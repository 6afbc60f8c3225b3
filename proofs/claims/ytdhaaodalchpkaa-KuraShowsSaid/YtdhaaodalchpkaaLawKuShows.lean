/-
  Proved: for every graph the law KuraShows answers true, and the graph reads afterwards as before. No condition.
-/
import Derived.Test.YtdhaaodalchpkaaKwG
import Derived.Test.YtdhaaodalchpkaaMgP
import Derived.Test.YtdhaaodalchpkaaKyT
import Derived.Test.YtdhaaodalchpkaaSiGin
namespace Go.Proofs.Ytdhaaodalchpkaa
open Go.ChangeShapes Go.WideShapes Go.ChangeAt Go.RowKit
namespace lawKuS

set_option maxRecDepth 100000 in
set_option maxHeartbeats 32000000 in
theorem walk (n : Int) (ao : Option Addr) (ca : Nat) (es : List (Int × Int)) (w : World) (_ : -9223372036854775808 ≤ n ∧ n ≤ 9223372036854775807) (hq : PairsIn w ao es.length ca es) (hle : es.length * 16 ≤ 140737488351232) :
    Calls Try.prog 6 #[.agg #[.int .i64 n, .slice ao es.length ca]] w fun e w' => e = .returned (.bool true) ∧ Below w.heap.size w w' := by
  have HG0 : Hid (Gr15 w n ao ca es _) := Nu.hid (.start hq.hat)
  have HP : Hid (∀ a c W, EdgesAt W a es → Calls Try.prog 13 #[.agg #[.int .i64 n, .slice a es.length c]] W (Ku.KrP (Ku.kr n es) W)) := fun a c W h => precognise_is n a c es W h (by omega)
  obtain ⟨⟨kd, br, ps, is, z⟩, hr⟩ : ∃ r, Ku.kr n es = r := ⟨_, rfl⟩
  rw [hr] at HP
  have HKR := Nu.hid hr
  obtain ⟨q, hbq⟩ : ∃ q, br.length = q := ⟨_, rfl⟩
  obtain ⟨p, hpq⟩ : ∃ p, ps.length = p := ⟨_, rfl⟩
  unfold Ku.KrP at HP
  dsimp only at HP
  rw [hbq, hpq] at HP
  have HBQ := Nu.hid hbq
  have HPQ := Nu.hid hpq
  have hle' : es.length * 16 ≤ 140737488355328 := by omega
  clear hq hr hbq hpq
  go_enter Try.func6, Try.ntmps6
  go_wp2_with (go_at_call 8; refine (wakes15_any _).mono ?_; rintro e w1 ⟨rfl, hb⟩; refine Hid.out ?_)
  refine Nu.hid ?_
  have G1 := Nu.hid (HG0.out.later hb)
  obtain ⟨x0, x1⟩ := G1.out.cells
  clear hb HG0
  go_wp2_with (first
    | (go_at_call 10; refine (G1.out.copy hle').mono ?_; rintro e w2 ⟨a2, c2, rfl, he2, hb2⟩; have HE := Nu.hid he2; have G2 := Nu.hid (G1.out.later hb2); clear he2 hb2)
    | (go_at_call 13; refine (HP.out _ _ _ HE.out).mono ?_; rintro e w3 ⟨a3, c3, a4, c4, rfl, hi3, hs3, hb3⟩; have HI3 := Nu.hid hi3; have HS3 := Nu.hid hs3; have G3 := Nu.hid (G2.out.later hb3); clear hi3 hs3 hb3; refine Hid.out ?_))
  refine Nu.hid ?_
  clear x0 x1 HE G1 G2
  obtain ⟨V, hV⟩ : ∃ V, V = w3.alloc (.cells #[.int .i64 kd, .slice a3 q c3, .slice a4 p c4] 38) := ⟨_, rfl⟩
  have hbV : Below w3.heap.size w3 V := by rw [hV]; exact (Below.refl _ _).alloc (Nat.le_refl _) _
  have gV : V.heap[w3.heap.size]? = some (.cells #[.int .i64 kd, .slice a3 q c3, .slice a4 p c4] 38 (0, 0)) := by rw [hV]; exact heap_alloc_new w3 _
  have GV := Nu.hid (G3.out.later hbV)
  have HI4 := Nu.hid (HI3.out.later hbV)
  have HS4 := Nu.hid (HS3.out.later hbV)
  have HGV := Nu.hid gV
  obtain ⟨x0, x1⟩ := GV.out.cells
  have HV := Nu.hid hV
  have HVD := Nu.hid (rvalid_any n ao ca es V GV.out.edges (by omega))
  rw [hV] at x0 x1
  clear hbV gV hV HI3 HS3 G3
  go_wp2_with (go_at_call 18; rw [← HV.out]; refine HVD.out.mono ?_; rintro e w4 ⟨rfl, hb4⟩; refine Hid.out ?_)
  refine Nu.hid ?_
  have HB4 := Nu.hid hb4
  have G4 := Nu.hid (GV.out.later hb4)
  obtain ⟨k0, k1, k2, -⟩ := cells3_15 ((hb4.block _ (lt_of_block HGV.out)).trans HGV.out)
  clear x0 x1 HVD hb4
  cases hval : Si.valid n es with
  | false =>
    have hk := HKR.out
    rw [Ku.kr_no hval] at hk
    cases hk
    have hp0 := HPQ.out
    simp only [List.length_nil] at hp0
    subst hp0
    have HB := Nu.hid G4.out.low
    clear hval
    go_wp2
    go_ret
    exact ⟨rfl, HB.out⟩
  | true =>
    have hv : Si.Val n es := Si.valid_iff.1 hval
    obtain ⟨m, rfl⟩ : ∃ m : Nat, n = (m : Int) := ⟨n.toNat, by have := hv.lo; omega⟩
    have hk := HKR.out
    rw [Ku.kr_yes hv] at hk
    cases hrec : Ku.recA (Ku.rows es hv es.length) es m with
    | none =>
      rw [hrec] at hk
      cases hk
      have hp0 := HPQ.out
      have hq0 := HBQ.out
      simp only [List.length_nil] at hp0 hq0
      subst hp0 hq0
      have HB := Nu.hid G4.out.low
      clear hval hrec
      go_wp2
      go_ret
      exact ⟨rfl, HB.out⟩
    | some x =>
      obtain ⟨kd', br', ps'⟩ := x
      rw [hrec] at hk
      cases hk
      obtain ⟨k, q', ts, rfl, hs, hrise, hlow⟩ := Ku.rec_shows hv hrec
      obtain rfl : q' = q := by rw [← hs.brl, HBQ.out]
      have hq5 : 5 ≤ q' ∧ q' ≤ 6 := by rcases hs.kdq with h | h <;> omega
      have HSH := Nu.hid (shown15_any m k q' p es.length ca c3 c4 ao a3 a4 es br ps ts w4 hv rfl HPQ.out G4.out.edges (HI4.out.later HB4.out) (by have := HS4.out.later HB4.out; exact this) hs)
      have hk12 : ((k : Int) != 1) = false ∨ (((k : Int) != 1) = true ∧ ((k : Int) != 2) = false) := by
        rcases hs.kdq with h | h
        · exact .inl (by rw [h.1]; rfl)
        · exact .inr ⟨by rw [h.1]; rfl, by rw [h.1]; rfl⟩
      have HKD : Hid ((k = 1 ∧ q' = 5) ∨ (k = 2 ∧ q' = 6)) := Nu.hid hs.kdq
      have HRISE := Nu.hid hrise
      have HLOW := Nu.hid hlow
      have HBRL : Hid (br.length = q') := Nu.hid hs.brl
      obtain ⟨b0, hb0⟩ : ∃ b, br[0]? = some b := ⟨_, List.getElem?_eq_getElem (by rw [hs.brl]; omega)⟩
      obtain ⟨bb, bo, rfl, -⟩ := HI4.out 0 b0 hb0
      have HRD : Hid (∀ U : World, Below V.heap.size V U → (U.cell? ⟨w3.heap.size, 0, none⟩ = some (.int .i64 (k : Int)) ∧ U.cell? ⟨w3.heap.size, 1, none⟩ = some (.slice (some ⟨bb, bo, none⟩) q' c3)) ∧ (∀ (i : Nat) (b : Int), br[i]? = some b → U.cell? ⟨bb, bo + i, none⟩ = some (.int .i64 b)) ∧ Below w.heap.size w U) := fun U hU => by
        obtain ⟨d0, d1, -, -⟩ := cells3_15 ((hU.block _ (lt_of_block HGV.out)).trans HGV.out)
        refine ⟨⟨d0, d1⟩, fun i b hi => ?_, (GV.out.later hU).low⟩
        obtain ⟨b', o', e', hc⟩ := (HI4.out.later hU) i b hi
        cases e'
        exact hc
      obtain ⟨x0, x1⟩ := G4.out.cells
      have HAFT : Hid (∀ w5 : World, Below w4.heap.size w4 w5 → Below V.heap.size V w5) := fun w5 h => HB4.out.trans (h.mono HB4.out.size)
      clear hval hrec hs hrise hlow hv hb0
      rcases hk12 with t1 | ⟨t1, t2⟩
      · go_wp2_with (go_at_call 19; refine HSH.out.mono ?_; rintro e w5 ⟨rfl, hb5⟩; refine Hid.out ?_)
        refine Nu.hid ?_
        have HB5 := Nu.hid (HAFT.out w5 hb5)
        obtain ⟨⟨d0, d1⟩, -, -⟩ := HRD.out w5 HB5.out
        clear hb5 x0 x1 k0 k1 k2 HSH
        go_wp2_with fail
        clear d0 d1
        go_loopw [6] (fun cv wr => ∃ (i : Nat), 1 ≤ i ∧ i ≤ q' ∧ cv = .int .i64 (i : Int) ∧ Below V.heap.size V wr) (fun cv _ => q' - (intOf cv).toNat)
        case atStart => exact ⟨1, Nat.le_refl _, by omega, rfl, HB5.out⟩
        case round =>
          obtain ⟨i, hi1, hiq, rfl, hb⟩ := hrel
          obtain ⟨X, rfl⟩ : ∃ X, X = wr := ⟨wr, rfl⟩
          have HBX := Nu.hid hb
          obtain ⟨⟨d0, d1⟩, -, hlw⟩ := HRD.out X hb
          have hwi : IntKind.i64.wrap ((i : Int) + 1) = (i : Int) + 1 := by rw [IntKind.wrap_i64]; omega
          have HRDX : Hid (∀ D : LW X, Below V.heap.size V D.val) := fun D => HBX.out.trans (D.h.mono HBX.out.size)
          have D0 : ∀ D : LW X, D.val.cell? ⟨w3.heap.size, 0, none⟩ = some (.int .i64 (k : Int)) := fun D => (HRD.out D.val (HRDX.out D)).1.1
          have D1 : ∀ D : LW X, D.val.cell? ⟨w3.heap.size, 1, none⟩ = some (.slice (some ⟨bb, bo, none⟩) q' c3) := fun D => (HRD.out D.val (HRDX.out D)).1.2
          have hne := LW.any X
          by_cases hlt : i < q'
          · have hlti : (i : Int) < (q' : Int) := by omega
            have hi0 : (0 : Int) ≤ (i : Int) := by omega
            obtain ⟨i1, hi1'⟩ : ∃ i1, i1 = i - 1 := ⟨_, rfl⟩
            have e1 : (i : Int) - 1 = (i1 : Int) := by omega
            have e2 : IntKind.i64.wrap (i1 : Int) = (i1 : Int) := by rw [IntKind.wrap_i64]; omega
            have e3 : (0 : Int) ≤ (i1 : Int) := by omega
            have e4 : (i1 : Int) < (q' : Int) := by omega
            obtain ⟨v, hv⟩ : ∃ b, br[i]? = some b := ⟨_, List.getElem?_eq_getElem (by rw [HBRL.out]; exact hlt)⟩
            obtain ⟨u, hu⟩ : ∃ b, br[i1]? = some b := ⟨_, List.getElem?_eq_getElem (by rw [HBRL.out]; omega)⟩
            have D2 : ∀ D : LW X, D.val.cell? ⟨bb, bo + i, none⟩ = some (.int .i64 v) := fun D => (HRD.out D.val (HRDX.out D)).2.1 i _ hv
            have D3 : ∀ D : LW X, D.val.cell? ⟨bb, bo + i1, none⟩ = some (.int .i64 u) := fun D => (HRD.out D.val (HRDX.out D)).2.1 i1 _ hu
            by_cases huv : v ≤ u
            · have hsk : k = 2 ∧ i = 3 := by
                refine Classical.byContradiction fun hc => ?_
                have h1 := HRISE.out i hi1 hlt hc
                rw [← hi1', Ku.gI_at hu, Ku.gI_at hv] at h1
                omega
              have s1 : decide (v ≤ u) = true := by simp [huv]
              have s2 : ((k : Int) == 2) = true := by rw [hsk.1]; rfl
              have s3 : ((i : Int) == 3) = true := by rw [hsk.2]; rfl
              clear hb hlw hi1' hv hu huv hsk
              go_wp2_with fail
              refine wp_region_lw (by kernel_rfl) (by kernel_rfl) ?_
              repeat (go_big_quiet_step (fail))
              refine wpQuiet_nil ?_
              rintro _ ⟨D, rfl⟩
              have HBD := Nu.hid (HRDX.out D)
              clear D0 D1 D2 D3 s1 s2 s3
              go_wp2
              go_roundw
              case rel => exact ⟨i + 1, by omega, by omega, by go_num, HBD.out⟩
              case measure => simp [intOf]; omega
            · have s1 : decide (v ≤ u) = false := by simp; omega
              clear hb hlw hi1' hv hu huv
              go_wp2_with fail
              refine wp_region_lw (by kernel_rfl) (by kernel_rfl) ?_
              repeat (go_big_quiet_step (fail))
              refine wpQuiet_nil ?_
              rintro _ ⟨D, rfl⟩
              have HBD := Nu.hid (HRDX.out D)
              clear D0 D1 D2 D3 s1
              go_wp2
              go_roundw
              case rel => exact ⟨i + 1, by omega, by omega, by go_num, HBD.out⟩
              case measure => simp [intOf]; omega
          · have hd : ¬ ((i : Int) < (q' : Int)) := by omega
            obtain ⟨v, hv⟩ : ∃ b, br[0]? = some b := ⟨_, List.getElem?_eq_getElem (by rw [HBRL.out]; omega)⟩
            obtain ⟨u, hu⟩ : ∃ b, br[3]? = some b := ⟨_, List.getElem?_eq_getElem (by rw [HBRL.out]; omega)⟩
            have D2 : ∀ D : LW X, D.val.cell? ⟨bb, bo, none⟩ = some (.int .i64 v) := fun D => (HRD.out D.val (HRDX.out D)).2.1 0 _ hv
            have D3 : ∀ D : LW X, D.val.cell? ⟨bb, bo + 3, none⟩ = some (.int .i64 u) := fun D => (HRD.out D.val (HRDX.out D)).2.1 3 _ hu
            have f1 : (0 : Int) < (q' : Int) := by omega
            have f2 : (3 : Int) < (q' : Int) := by omega
            have hkk : ((k : Int) == 1) = true ∨ (((k : Int) == 1) = false ∧ v < u) := by
              rcases HKD.out with h | h
              · exact .inl (by rw [h.1]; rfl)
              · refine .inr ⟨by rw [h.1]; rfl, ?_⟩
                have h1 := HLOW.out h.1
                rw [Ku.gI_at hv, Ku.gI_at hu] at h1
                exact h1
            clear hb hlw hv hu
            rcases hkk with s1 | ⟨s1, huv⟩
            · go_wp2_with fail
              refine wp_region_lw (by kernel_rfl) (by kernel_rfl) ?_
              repeat (go_big_quiet_step (fail))
              refine wpQuiet_nil ?_
              rintro _ ⟨D, rfl⟩
              have HBD := Nu.hid (HRD.out D.val (HRDX.out D)).2.2
              go_wp2
              go_ret
              exact ⟨rfl, HBD.out⟩
            · have s2 : decide (v < u) = true := by simp [huv]
              go_wp2_with fail
              refine wp_region_lw (by kernel_rfl) (by kernel_rfl) ?_
              repeat (go_big_quiet_step (fail))
              refine wpQuiet_nil ?_
              rintro _ ⟨D, rfl⟩
              have HBD := Nu.hid (HRD.out D.val (HRDX.out D)).2.2
              go_wp2
              go_ret
              exact ⟨rfl, HBD.out⟩
      · go_wp2_with (go_at_call 19; refine HSH.out.mono ?_; rintro e w5 ⟨rfl, hb5⟩; refine Hid.out ?_)
        refine Nu.hid ?_
        have HB5 := Nu.hid (HAFT.out w5 hb5)
        obtain ⟨⟨d0, d1⟩, -, -⟩ := HRD.out w5 HB5.out
        clear hb5 x0 x1 k0 k1 k2 HSH
        go_wp2_with fail
        clear d0 d1
        go_loopw [6] (fun cv wr => ∃ (i : Nat), 1 ≤ i ∧ i ≤ q' ∧ cv = .int .i64 (i : Int) ∧ Below V.heap.size V wr) (fun cv _ => q' - (intOf cv).toNat)
        case atStart => exact ⟨1, Nat.le_refl _, by omega, rfl, HB5.out⟩
        case round =>
          obtain ⟨i, hi1, hiq, rfl, hb⟩ := hrel
          obtain ⟨X, rfl⟩ : ∃ X, X = wr := ⟨wr, rfl⟩
          have HBX := Nu.hid hb
          obtain ⟨⟨d0, d1⟩, -, hlw⟩ := HRD.out X hb
          have hwi : IntKind.i64.wrap ((i : Int) + 1) = (i : Int) + 1 := by rw [IntKind.wrap_i64]; omega
          have HRDX : Hid (∀ D : LW X, Below V.heap.size V D.val) := fun D => HBX.out.trans (D.h.mono HBX.out.size)
          have D0 : ∀ D : LW X, D.val.cell? ⟨w3.heap.size, 0, none⟩ = some (.int .i64 (k : Int)) := fun D => (HRD.out D.val (HRDX.out D)).1.1
          have D1 : ∀ D : LW X, D.val.cell? ⟨w3.heap.size, 1, none⟩ = some (.slice (some ⟨bb, bo, none⟩) q' c3) := fun D => (HRD.out D.val (HRDX.out D)).1.2
          have hne := LW.any X
          by_cases hlt : i < q'
          · have hlti : (i : Int) < (q' : Int) := by omega
            have hi0 : (0 : Int) ≤ (i : Int) := by omega
            obtain ⟨i1, hi1'⟩ : ∃ i1, i1 = i - 1 := ⟨_, rfl⟩
            have e1 : (i : Int) - 1 = (i1 : Int) := by omega
            have e2 : IntKind.i64.wrap (i1 : Int) = (i1 : Int) := by rw [IntKind.wrap_i64]; omega
            have e3 : (0 : Int) ≤ (i1 : Int) := by omega
            have e4 : (i1 : Int) < (q' : Int) := by omega
            obtain ⟨v, hv⟩ : ∃ b, br[i]? = some b := ⟨_, List.getElem?_eq_getElem (by rw [HBRL.out]; exact hlt)⟩
            obtain ⟨u, hu⟩ : ∃ b, br[i1]? = some b := ⟨_, List.getElem?_eq_getElem (by rw [HBRL.out]; omega)⟩
            have D2 : ∀ D : LW X, D.val.cell? ⟨bb, bo + i, none⟩ = some (.int .i64 v) := fun D => (HRD.out D.val (HRDX.out D)).2.1 i _ hv
            have D3 : ∀ D : LW X, D.val.cell? ⟨bb, bo + i1, none⟩ = some (.int .i64 u) := fun D => (HRD.out D.val (HRDX.out D)).2.1 i1 _ hu
            by_cases huv : v ≤ u
            · have hsk : k = 2 ∧ i = 3 := by
                refine Classical.byContradiction fun hc => ?_
                have h1 := HRISE.out i hi1 hlt hc
                rw [← hi1', Ku.gI_at hu, Ku.gI_at hv] at h1
                omega
              have s1 : decide (v ≤ u) = true := by simp [huv]
              have s2 : ((k : Int) == 2) = true := by rw [hsk.1]; rfl
              have s3 : ((i : Int) == 3) = true := by rw [hsk.2]; rfl
              clear hb hlw hi1' hv hu huv hsk
              go_wp2_with fail
              refine wp_region_lw (by kernel_rfl) (by kernel_rfl) ?_
              repeat (go_big_quiet_step (fail))
              refine wpQuiet_nil ?_
              rintro _ ⟨D, rfl⟩
              have HBD := Nu.hid (HRDX.out D)
              clear D0 D1 D2 D3 s1 s2 s3
              go_wp2
              go_roundw
              case rel => exact ⟨i + 1, by omega, by omega, by go_num, HBD.out⟩
              case measure => simp [intOf]; omega
            · have s1 : decide (v ≤ u) = false := by simp; omega
              clear hb hlw hi1' hv hu huv
              go_wp2_with fail
              refine wp_region_lw (by kernel_rfl) (by kernel_rfl) ?_
              repeat (go_big_quiet_step (fail))
              refine wpQuiet_nil ?_
              rintro _ ⟨D, rfl⟩
              have HBD := Nu.hid (HRDX.out D)
              clear D0 D1 D2 D3 s1
              go_wp2
              go_roundw
              case rel => exact ⟨i + 1, by omega, by omega, by go_num, HBD.out⟩
              case measure => simp [intOf]; omega
          · have hd : ¬ ((i : Int) < (q' : Int)) := by omega
            obtain ⟨v, hv⟩ : ∃ b, br[0]? = some b := ⟨_, List.getElem?_eq_getElem (by rw [HBRL.out]; omega)⟩
            obtain ⟨u, hu⟩ : ∃ b, br[3]? = some b := ⟨_, List.getElem?_eq_getElem (by rw [HBRL.out]; omega)⟩
            have D2 : ∀ D : LW X, D.val.cell? ⟨bb, bo, none⟩ = some (.int .i64 v) := fun D => (HRD.out D.val (HRDX.out D)).2.1 0 _ hv
            have D3 : ∀ D : LW X, D.val.cell? ⟨bb, bo + 3, none⟩ = some (.int .i64 u) := fun D => (HRD.out D.val (HRDX.out D)).2.1 3 _ hu
            have f1 : (0 : Int) < (q' : Int) := by omega
            have f2 : (3 : Int) < (q' : Int) := by omega
            have hkk : ((k : Int) == 1) = true ∨ (((k : Int) == 1) = false ∧ v < u) := by
              rcases HKD.out with h | h
              · exact .inl (by rw [h.1]; rfl)
              · refine .inr ⟨by rw [h.1]; rfl, ?_⟩
                have h1 := HLOW.out h.1
                rw [Ku.gI_at hv, Ku.gI_at hu] at h1
                exact h1
            clear hb hlw hv hu
            rcases hkk with s1 | ⟨s1, huv⟩
            · go_wp2_with fail
              refine wp_region_lw (by kernel_rfl) (by kernel_rfl) ?_
              repeat (go_big_quiet_step (fail))
              refine wpQuiet_nil ?_
              rintro _ ⟨D, rfl⟩
              have HBD := Nu.hid (HRD.out D.val (HRDX.out D)).2.2
              go_wp2
              go_ret
              exact ⟨rfl, HBD.out⟩
            · have s2 : decide (v < u) = true := by simp [huv]
              go_wp2_with fail
              refine wp_region_lw (by kernel_rfl) (by kernel_rfl) ?_
              repeat (go_big_quiet_step (fail))
              refine wpQuiet_nil ?_
              rintro _ ⟨D, rfl⟩
              have HBD := Nu.hid (HRD.out D.val (HRDX.out D)).2.2
              go_wp2
              go_ret
              exact ⟨rfl, HBD.out⟩

set_option maxRecDepth 100000 in
/-- What the walk gives, for every argument and every world. -/
theorem contract (H : Type) (enc : TypeId × Value → H) (W : World) (base : Nat) (args : Array Value) (ds gs : List (DataW H)) (before : List MemPlace)
    (hval : ∀ (j : Nat) t v, Try.f6.params[j]? = some t → args[j]? = some v → Value.okWide Try.prog W .any base t v)
    (hW : DataW.Whole enc Try.prog Try.f6.params.toList Rows.kuraShowsSpec.vars false W args.toList ds gs before)
    (hsz : (DataW.weightsEach Try.prog (Try.f6.params.toList ++ (OpenSpec.ofChange Rows.kuraShowsSpec).bare.plain.varTypes Try.prog) (ds ++ gs)).all (· ≤ reachBytes) = true)
    :
    Calls Try.prog 6 args W fun e W' => ∃ v, e = .returned v ∧ Rows.kuraShowsSpec.post enc Try.prog Try.f6 false true false false W args v W' := by
  have hW' := hW
  obtain ⟨p, q, hA0, hV, rfl, hfz, hnd⟩ := hW
  have hA : DataW.TrodAll enc Try.prog W 0 (fun _ => true) true Try.f6.params.toList args.toList ds p := hA0
  rw [Try.params6] at hA hval hsz
  obtain ⟨v0, vs0, d0, ds0, p0, q0, hargs, rfl, rfl, h0, r0⟩ := trodAll_cons hA
  obtain ⟨rfl, rfl, rfl⟩ := trodAll_nil r0
  obtain rfl : args = #[v0] := by cases args; simp_all
  obtain ⟨rfl, rfl⟩ := trodVars_none hV
  have k0 := h0
  have lt0 : ∀ x ∈ p0, x.block < W.heap.size := by obtain ⟨m, hm⟩ := k0; exact DataW.trod_lt m _ _ _ hm
  obtain ⟨n0, a0, cap0, q0, rfl, x0, w0, u0⟩ := graph_of_trod (j := 0) (hval 0 24 v0 rfl rfl) h0 hsz rfl rfl
  clear hA0
  refine (walk n0 a0 cap0 q0 W x0 w0 u0).mono fun e W' ⟨he, bel⟩ => ?_
  subst he
  exact ⟨_, rfl, _, _, _, [], _, [], hW', trodAll_mk1 (shut_bool Try.underlying4 _), (trodAll_cons_mk (Below.trod laidOut (by kernel_rfl) (of_decide_eq_true (by kernel_rfl)) k0 bel lt0) trodAll_mk0), rfl, bel.frame _, fun h => by cases h⟩

theorem laid_met (os : Os) : laidMet Try.prog Rows.kuraShowsRow.laid ((settled os).forCall (fun _ _ => 0) ⟨#[], #[.agg #[.int .i64 0, .slice none 0 0]], []⟩).memory :=
  laidMet_of_run' 100 (by kernel_rfl) (by kernel_rfl)
theorem reads (os : Os) {H : Type} (enc : TypeId × Value → H) : ∃ places, DataW.whole enc Try.prog ((settled os).forCall (fun _ _ => 0) ⟨#[], #[.agg #[.int .i64 0, .slice none 0 0]], []⟩).memory Try.f6.params.toList Rows.kuraShowsSpec.vars false (#[.agg #[.int .i64 0, .slice none 0 0]] : Array Value).toList 8 = some ([.agg [.lit (.int .i64 0), .nil]], [], places) :=
  ⟨[], by kernel_rfl⟩

set_option maxRecDepth 100000 in
theorem lifted (os : Os) (started : os.Started) (H : Type) (enc : TypeId × Value → H) (F : Stop.Interp) :
    ReturnsInHanded {} Try.checked os 6 .any ((OpenSpec.ofChange Rows.kuraShowsSpec).preRow enc Try.prog Try.f6 Rows.kuraShowsRow.domain false Rows.kuraShowsRow.laid) (((OpenSpec.ofChange Rows.kuraShowsSpec).at F).post enc Try.prog Try.f6 false true false false) := by
  obtain ⟨places, hx⟩ := reads os enc
  refine returnsInHanded_of_row (C := Try.checked) (s := (OpenSpec.ofChange Rows.kuraShowsSpec)) own started (by kernel_rfl) Try.func6
    (witness_row_at (enc := enc) (C := Try.checked) false (settled os) #[.agg #[.int .i64 0, .slice none 0 0]] rfl (by kernel_rfl) (by kernel_rfl) (by kernel_rfl)
      (OpenSpec.preRow_of_cond 8 hx (by kernel_rfl) (fun k hk => by cases hk) (by kernel_rfl) (laid_met os))) ?_
  intro W base args ds gs before hval hW _ _ hsz _ _ _
  exact contract H enc W base args ds gs before hval hW hsz 

theorem said : Rows.KuraShowsSaid :=
  OpenClaim.holds_of_cond 6 Try.f6 rfl rfl rfl rfl rfl rfl rfl ⟨rfl, rfl, rfl, rfl, rfl⟩ rfl rfl rfl rfl rfl (by kernel_rfl) Try.func6 (by kernel_rfl)
    (of_decide_eq_true (by kernel_rfl)) (by unfold Func.isWrapper; first | (rw [if_pos (by decide +kernel)]; kernel_rfl) | (rw [if_neg (by decide +kernel)]; exact ⟨rfl, rfl⟩))
    (fun os started H enc _ F => by rw [OpenClaim.pre_eq_preRow]; exact lifted os started H enc F)

end lawKuS

theorem kuraShows_holds : Rows.KuraShowsSaid := lawKuS.said

#print axioms kuraShows_holds
end Go.Proofs.Ytdhaaodalchpkaa
