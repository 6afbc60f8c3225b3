/-
  Proved: for every number, every list of pairs and every list of numbers the law CompsOrder answers true, and the lists read afterwards as before. No condition.
-/
import Derived.Test.YtoaaihbeehpgfaaCoFixed
import Derived.Test.YtoaaihbeehpgfaaCoOrd
import Derived.Test.YtoaaihbeehpgfaaCoBools
import Derived.Test.YtoaaihbeehpgfaaCoRGrp
import Derived.Test.YtoaaihbeehpgfaaCoPair
import Derived.Test.YtoaaihbeehpgfaaSiTake
import Derived.Deep.RegionHeld3
namespace Go.Proofs.Ytoaaihbeehpgfaa
open Go.ChangeShapes Go.WideShapes Go.ChangeAt Go.RowKit
namespace lawOrder

/-- The numbers of a slice that came in. -/
theorem row_ints {w : World} {a : Option Addr} {len cap : Nat} {zs : List Int} (h : IsRow .i64 8 w a len cap zs) : IntsAt w a (zs.take len) := fun j z hj => by
  rcases h with ⟨_, rfl, _, rfl⟩ | ⟨x, rfl, hl, hm, hz, hc, hw⟩
  · simp at hj
  · rw [List.getElem?_take] at hj
    by_cases hjl : j < len
    · rw [if_pos hjl] at hj
      have hlt : j < zs.length := by omega
      have hci := hc j hlt
      rw [List.getD_eq_getElem?_getD, hj] at hci
      obtain ⟨b, o, sp⟩ := x
      have hsp : sp = none := by simpa [Addr.add] using World.cell?_spot (hc 0 (by omega))
      subst hsp
      refine ⟨b, o, rfl, ?_⟩
      have e : ((⟨b, o, none⟩ : Addr).add j) = ⟨b, o + j, none⟩ := by
        by_cases h0 : j = 0 <;> simp [Addr.add, h0]
      rw [e] at hci
      exact hci
    · rw [if_neg hjl] at hj
      cases hj

/-- Two Sets, s and t. -/
structure St (w : World) (Qs Qt : Option (Nat × Nat × Nat)) (k : Nat) (Ms M : Nat → Nat) (V : World) : Prop where
  s : SetsQ V Qs k Ms
  t : SetsQ V Qt k M
  below : Below w.heap.size w V

section
variable {w : World} {Qs Qt : Option (Nat × Nat × Nat)} {k : Nat} {Ms M : Nat → Nat} {V V' : World}
theorem St.later (h : St w Qs Qt k Ms M V) (hb : Below V.heap.size V V') : St w Qs Qt k Ms M V' := ⟨h.s.later hb, h.t.later hb, h.below.trans (hb.mono h.below.size)⟩
theorem St.drew (h : St w Qs Qt k Ms M V) : St w Qs Qt k Ms M V.drew := h.later ((Below.refl _ _).drew)
/-- Only blocks above w that are none of theirs are written. -/
theorem St.wrote {R : Nat → Prop} (h : St w Qs Qt k Ms M V) (hw : Wrote R V V') (h1 : ∀ b, inQ Qs b → ¬ R b) (h2 : ∀ b, inQ Qt b → ¬ R b) (h3 : ∀ b, R b → w.heap.size ≤ b) : St w Qs Qt k Ms M V' :=
  ⟨h.s.wrote hw h1, h.t.wrote hw h2, h.below.trans (hw.below h.below.size h3)⟩
end

theorem join_t {w V : World} {Qs : Option (Nat × Nat × Nat)} {P gP gT k : Nat} {Ms M : Nat → Nat} (h : St w Qs (some (P, gP, gT)) k Ms M V) (hd : ∀ b, inQ Qs b → ¬ inQ (some (P, gP, gT)) b) (hB : ∀ b, inQ (some (P, gP, gT)) b → w.heap.size ≤ b) (x y : Int) :
    Calls Try.prog 15 #[.pointer (some ⟨P, 0, none⟩), .int .i64 x, .int .i64 y] V fun e V' => e = .returned (.bool (Co.apart k M x y)) ∧ St w Qs (some (P, gP, gT)) k Ms (Co.joinI k M x y) V' ∧ Wrote (inQ (some (P, gP, gT))) V V' :=
  (join_any (some (P, gP, gT)) k M x y V h.t).mono (by
    rintro e V' ⟨h1, h2, h3⟩
    exact ⟨h1, ⟨h.s.wrote h3 hd, h2, h.below.trans (h3.below h.below.size hB)⟩, h3⟩)

theorem join_s {w V : World} {Qt : Option (Nat × Nat × Nat)} {p gp gt k : Nat} {Ms M : Nat → Nat} (h : St w (some (p, gp, gt)) Qt k Ms M V) (hd : ∀ b, inQ Qt b → ¬ inQ (some (p, gp, gt)) b) (hB : ∀ b, inQ (some (p, gp, gt)) b → w.heap.size ≤ b) (x y : Int) :
    Calls Try.prog 15 #[.pointer (some ⟨p, 0, none⟩), .int .i64 x, .int .i64 y] V fun e V' => e = .returned (.bool (Co.apart k Ms x y)) ∧ St w (some (p, gp, gt)) Qt k (Co.joinI k Ms x y) M V' :=
  (join_any (some (p, gp, gt)) k Ms x y V h.s).mono (by
    rintro e V' ⟨h1, h2, h3⟩
    exact ⟨h1, ⟨h2, h.t.wrote h3 hd, h.below.trans (h3.below h.below.size hB)⟩⟩)

set_option maxRecDepth 100000 in
set_option maxHeartbeats 16000000 in
theorem walk (n : Int) (ao : Option Addr) (ca : Nat) (js : List (Int × Int)) (bo : Option Addr) (len cb : Nat) (zs : List Int) (w : World) (_ : (Lit.int .i64 n).wf = true) (hq : PairsIn w ao js.length ca js) (hle : js.length * 16 ≤ 140737488351232) (hr : IsRow .i64 8 w bo len cb zs) :
    Calls Try.prog 5 #[.int .i64 n, .slice ao js.length ca, .slice bo len cb] w fun e w' => e = .returned (.bool true) ∧ Below w.heap.size w w' := by
  obtain ⟨i0, hi0, hz0, hz1, hz2⟩ := info_parts Try.infoBool
  have HQ := Nu.hid hq
  have hlen := hr.small
  have HROW := Nu.hid (row_ints hr)
  have HTK := Nu.hid hr.take
  clear hq hr
  go_enter Try.func5, Try.ntmps5
  go_wp2_with (go_at_call 10; refine (fixed_any _).mono ?_; rintro e w1 ⟨rfl, hb1⟩; have HB1 := Nu.hid hb1; clear hb1; refine Hid.out ?_)
  refine Nu.hid ?_
  by_cases q1 : n < 0
  · go_wp2
    go_ret
    exact ⟨rfl, HB1.out⟩
  by_cases q2 : 3000 < n
  · go_wp2
    go_ret
    exact ⟨rfl, HB1.out⟩
  obtain ⟨k, rfl⟩ : ∃ k : Nat, n = (k : Int) := ⟨n.toNat, by omega⟩
  have hk : k ≤ 3000 := by omega
  have HN := Nu.hid (fun W => new_yes k W (by omega))
  go_wp2_with (go_at_call 9; refine (HN.out _).mono ?_; rintro e w2 ⟨p, gp, gt, rfl, hs2, hb2⟩; have HS2 := Nu.hid hs2; have HB2 := Nu.hid hb2; clear hs2 hb2; refine Hid.out ?_)
  refine Nu.hid ?_
  go_wp2_with (go_at_call 9; refine (HN.out _).mono ?_; rintro e w3 ⟨P, gP, gT, rfl, hs3, hb3⟩; have HS3 := Nu.hid hs3; have HB3 := Nu.hid hb3; clear hs3 hb3; refine Hid.out ?_)
  refine Nu.hid ?_
  obtain ⟨hs2, b1, b2, b3⟩ := HS2.out
  obtain ⟨hs3, b4, b5, b6⟩ := HS3.out
  obtain ⟨l1, l2, l3⟩ := hs2.lts
  have hs1 := HB1.out.size
  have hsz2 := HB2.out.size
  have bb := HB1.out.trans (HB2.out.mono HB1.out.size)
  have hS3 : St w (some (p, gp, gt)) (some (P, gP, gT)) k (fun x => x) (fun x => x) w3 := ⟨hs2.later HB3.out, hs3, bb.trans (HB3.out.mono bb.size)⟩
  have HD : Hid (∀ b, inQ (some (p, gp, gt)) b → ¬ inQ (some (P, gP, gT)) b) := by
    rintro b (rfl | rfl | rfl) (h | h | h) <;> omega
  have HD' : Hid (∀ b, inQ (some (P, gP, gT)) b → ¬ inQ (some (p, gp, gt)) b) := fun b h1 h2 => HD.out b h2 h1
  have HBs : Hid (∀ b, inQ (some (p, gp, gt)) b → w.heap.size ≤ b) := by
    rintro b (rfl | rfl | rfl) <;> omega
  have HBt : Hid (∀ b, inQ (some (P, gP, gT)) b → w.heap.size ≤ b) := by
    rintro b (rfl | rfl | rfl) <;> omega
  have HS := Nu.hid hS3
  clear HN HS2 HS3 HB1 HB2 HB3 hs2 hs3 bb hS3 b1 b2 b3 b4 b5 b6 l1 l2 l3 hs1 hsz2
  go_wp2
  -- s
  go_loopw [11, 47] (fun yv cv wr => ∃ i y : Nat, i ≤ js.length ∧ cv = .int .i64 (i : Int) ∧ yv = .int .i64 (y : Int) ∧ Co.cnt k (Co.joins k (js.take i) (fun x => x)) + y = k ∧ St w (some (p, gp, gt)) (some (P, gP, gT)) k (Co.joins k (js.take i) (fun x => x)) (fun x => x) wr) (fun _ cv _ => js.length - (intOf cv).toNat)
  case atStart => exact ⟨0, 0, Nat.zero_le _, rfl, rfl, Co.cnt_id k, HS.out⟩
  case round =>
    obtain ⟨i, y, hi, rfl, rfl, hcy, hst⟩ := hrel
    obtain ⟨Ms, hMs⟩ : ∃ Ms, Co.joins k (js.take i) (fun x => x) = Ms := ⟨_, rfl⟩
    rw [hMs] at hcy hst
    have HST := Nu.hid hst
    by_cases hlt : i < js.length
    · have hlti : (i : Int) < (js.length : Int) := by omega
      have hi0' : (0 : Int) ≤ (i : Int) := by omega
      obtain ⟨j, hj⟩ : ∃ j, js[i]? = some j := ⟨_, List.getElem?_eq_getElem hlt⟩
      obtain ⟨b, o, rfl, c0, c1⟩ := (HQ.out.hat.later hst.below) i j hj
      have hbl : b < wr.heap.size := block_lt_of_cell c0
      obtain ⟨x, z⟩ := j
      dsimp only at c0 c1
      have hjn := join_s (hst.later ((Below.refl wr.heap.size wr).alloc (Nat.le_refl _) (.cells #[.int .i64 x, .int .i64 z] 34))) HD'.out HBs.out x z
      have hcc := Co.cnt_joinI hst.s.is.norm x z
      have hMn : Co.joins k (js.take (i + 1)) (fun x => x) = Co.joinI k Ms x z := by
        rw [Si.take_snoc hj, Co.joins_snoc, hMs]
      have HMN := Nu.hid hMn
      cases ht : Co.apart k Ms x z with
      | true =>
        rw [ht] at hjn hcc
        have HJN := Nu.hid hjn
        have HCC : Hid (Co.cnt k (Co.joinI k Ms x z) + (y + 1) = k) := by
          show _ = _
          simp at hcc
          omega
        have hyk : y ≤ k := by omega
        clear hst hj hMs hjn hcc hMn ht hcy
        go_wp2_with (go_at_call 15; refine HJN.out.mono ?_; rintro e w5 ⟨rfl, h5⟩; have H5 := Nu.hid h5; clear h5; refine Hid.out ?_)
        refine Nu.hid ?_
        go_wp2
        go_roundw
        case rel => exact ⟨i + 1, y + 1, by omega, by go_num, by go_num, by rw [HMN.out]; exact HCC.out, by rw [HMN.out]; exact H5.out⟩
        case measure => simp [intOf]; omega
      | false =>
        rw [ht] at hjn hcc
        have HJN := Nu.hid hjn
        have HCC : Hid (Co.cnt k (Co.joinI k Ms x z) + y = k) := by
          show _ = _
          simp at hcc
          omega
        clear hst hj hMs hjn hcc hMn ht hcy
        go_wp2_with (go_at_call 15; refine HJN.out.mono ?_; rintro e w5 ⟨rfl, h5⟩; have H5 := Nu.hid h5; clear h5; refine Hid.out ?_)
        refine Nu.hid ?_
        go_wp2
        go_roundw
        case rel => exact ⟨i + 1, y, by omega, by go_num, rfl, by rw [HMN.out]; exact HCC.out, by rw [HMN.out]; exact H5.out⟩
        case measure => simp [intOf]; omega
    · have hd : ¬ ((i : Int) < (js.length : Int)) := by omega
      obtain ⟨w0, rfl⟩ : ∃ w0, w0 = wr := ⟨wr, rfl⟩
      rw [List.take_of_length_le (by omega)] at hMs
      have HGEN : Hid (Co.Gen k js Ms) := by
        show Co.Gen k js Ms
        rw [← hMs]
        exact Co.gen_joins k js
      obtain ⟨L, hL⟩ : ∃ L, js.length = L := ⟨_, rfl⟩
      have hmk : ∀ W, (Instr.makeSlice 45 (.int .i64 (js.length : Int)) (.int .i64 (js.length : Int))).run Try.prog W = .ok (.slice (some ⟨W.heap.size, 0, none⟩) js.length js.length) (W.alloc (.cells (madeCells #[.bool false] js.length) 4)) := fun W => by
        have := run_make (P := Try.prog) W 45 4 i0 (.bool false) Try.underlying45 hi0 hz0 .i64 .i64 (js.length : Int) (js.length : Int) (by omega) (Int.le_refl _) (by rw [hz2]; omega) (by omega)
        rw [this, hz1]
        simp [Value.cells]
      have HI0 : Hid (BoolsIn (w0.alloc (.cells (madeCells #[.bool false] js.length) 4)) w0.heap.size js.length (fun _ => false)) := made_bools rfl js.length
      have HS1 := Nu.hid (hst.later ((Below.refl w0.heap.size w0).alloc (Nat.le_refl _) (.cells (madeCells #[.bool false] js.length) 4)))
      have hDs : ¬ inQ (some (p, gp, gt)) w0.heap.size := fun h => by have := hst.s.lt h; omega
      have hDt : ¬ inQ (some (P, gP, gT)) w0.heap.size := fun h => by have := hst.t.lt h; omega
      have hwD := hst.below.size
      have HDS := Nu.hid hDs
      have HDT := Nu.hid hDt
      clear hst hMs hDs hDt hL
      go_wp2
      clear hmk
      go_loopw [65] (fun cv wr => ∃ (i : Nat) (M : Nat → Nat) (f : Nat → Bool), i ≤ len ∧ cv = .int .i64 (i : Int) ∧ St w (some (p, gp, gt)) (some (P, gP, gT)) k Ms M wr ∧ Co.Sub k js M ∧ BoolsIn wr w0.heap.size js.length f) (fun cv _ => len - (intOf cv).toNat)
      case atStart => exact ⟨0, _, _, Nat.zero_le _, rfl, HS1.out, Co.Sub.id k js, HI0.out⟩
      case round =>
        obtain ⟨i, M, f, hi, rfl, hst, hsub, hI⟩ := hrel
        have HST := Nu.hid hst
        have HSUB := Nu.hid hsub
        have HI := Nu.hid hI
        by_cases hlt : i < len
        · have hlti : (i : Int) < (len : Int) := by omega
          have hi0' : (0 : Int) ≤ (i : Int) := by omega
          obtain ⟨z, hz⟩ : ∃ z, (zs.take len)[i]? = some z := ⟨_, List.getElem?_eq_getElem (by have := HTK.out; omega)⟩
          obtain ⟨b, o, rfl, cz⟩ := (HROW.out.later hst.below) i z hz
          clear hz
          by_cases z1 : z < 0
          · have z1' : ¬ 0 ≤ z := by omega
            clear hst hsub hI
            go_wp2
            go_roundw
            case rel => exact ⟨i + 1, M, f, by omega, by go_num, HST.out, HSUB.out, HI.out⟩
            case measure => simp [intOf]; omega
          by_cases z2 : (js.length : Int) ≤ z
          · have z1' : 0 ≤ z := by omega
            have z2' : ¬ z < (js.length : Int) := by omega
            clear hst hsub hI
            go_wp2
            go_roundw
            case rel => exact ⟨i + 1, M, f, by omega, by go_num, HST.out, HSUB.out, HI.out⟩
            case measure => simp [intOf]; omega
          obtain ⟨e, rfl⟩ : ∃ e : Nat, z = (e : Int) := ⟨z.toNat, by omega⟩
          have z1' : (0 : Int) ≤ (e : Int) := by omega
          have z2' : (e : Int) < (js.length : Int) := by omega
          have hel : e < js.length := by omega
          have ce := hI.cell hel
          cases hfe : f e with
          | true =>
            rw [hfe] at ce
            clear hst hsub hI hfe
            go_wp2
            go_roundw
            case rel => exact ⟨i + 1, M, f, by omega, by go_num, HST.out, HSUB.out, HI.out⟩
            case measure => simp [intOf]; omega
          | false =>
            rw [hfe] at ce
            have cf := hI.free
            obtain ⟨j, hj⟩ : ∃ j, js[e]? = some j := ⟨_, List.getElem?_eq_getElem hel⟩
            have hmem := List.mem_of_getElem? hj
            obtain ⟨x, y'⟩ := j
            have hW := hI.set e true
            have hwr : Wrote (fun b => b = w0.heap.size) wr (wr.setCell ⟨w0.heap.size, e, none⟩ (.bool true)) := (Wrote.refl (fun b => b = w0.heap.size) wr).setCell (b := w0.heap.size) (i := e) rfl _
            have hstW : St w (some (p, gp, gt)) (some (P, gP, gT)) k Ms M (wr.setCell ⟨w0.heap.size, e, none⟩ (.bool true)) := hst.wrote hwr (fun b hb e => HDS.out (e ▸ hb)) (fun b hb e => HDT.out (e ▸ hb)) (fun b hb => by omega)
            obtain ⟨W, hWW⟩ : ∃ W, W = wr.setCell ⟨w0.heap.size, e, none⟩ (.bool true) := ⟨_, rfl⟩
            rw [← hWW] at hW hstW
            have hcells : ∀ V, Below w.heap.size w V → ∃ b' o' : Nat, ao = some ⟨b', o', none⟩ ∧ V.cell? ⟨b', o' + e * 2, none⟩ = some (.int .i64 x) ∧ V.cell? ⟨b', o' + e * 2 + 1, none⟩ = some (.int .i64 y') := fun V hb => (HQ.out.hat.later hb) e (x, y') hj
            obtain ⟨b', o', hao, k0, k1⟩ := hcells W hstW.below
            subst hao
            have HCELLS := Nu.hid hcells
            have hjt := join_t hstW.drew HD.out HBt.out y' x
            have HJT := Nu.hid hjt
            have HSUBN : Hid (Co.Sub k js (Co.joinI k M y' x)) := hsub.joinI hst.t.is.norm (fun f hf h1 h2 => (hf _ hmem h2 h1).symm)
            have HWI := Nu.hid hW
            have HWW := Nu.hid hWW
            clear hst hsub hI hfe hj hmem hW hwr hstW hWW hcells hjt
            go_wp2_with fail
            rw [← HWW.out]
            go_region_held3 (fun V => V.cell? ⟨b', o' + e * 2, none⟩ = some (.int .i64 x) ∧ V.cell? ⟨b', o' + e * 2 + 1, none⟩ = some (.int .i64 y'))
              (first | exact ⟨k0, k1⟩ | exact h6)
              ((go_at_call 15; refine HJT.out.mono ?_; rintro r w6 ⟨rfl, h5, h5w⟩; obtain ⟨b2, o2, e2, h6⟩ := HCELLS.out w6 h5.below; cases e2))
            have H5 := Nu.hid h5
            have HI6 := Nu.hid (HWI.out.same ((h5w.block w0.heap.size HWI.out.lt HDT.out)))
            clear h5 h5w h6 HJT HWI HWW
            go_wp2
            go_roundw
            case rel => exact ⟨i + 1, _, _, by omega, by go_num, H5.out, HSUBN.out, HI6.out⟩
            case measure => simp [intOf]; omega
        · have hd2 : ¬ ((i : Int) < (len : Int)) := by omega
          clear hst hsub hI
          go_wp2
          -- backwards
          go_loopw [17] (fun cv wr => ∃ (r : Nat) (M : Nat → Nat), r ≤ js.length ∧ cv = .int .i64 ((r : Int) - 1) ∧ St w (some (p, gp, gt)) (some (P, gP, gT)) k Ms M wr ∧ Co.Sub k js M ∧ Co.Meets k (js.drop r) M) (fun cv _ => (intOf cv + 1).toNat)
          case atStart => exact ⟨js.length, M, Nat.le_refl _, rfl, HST.out, HSUB.out, fun j hj => by simp at hj⟩
          case round =>
            obtain ⟨r, M2, hr, rfl, hst, hsub, hmt⟩ := hrel
            have HST2 := Nu.hid hst
            have HSUB2 := Nu.hid hsub
            have HMT := Nu.hid hmt
            by_cases hr0 : 0 < r
            · obtain ⟨e, rfl⟩ : ∃ e, r = e + 1 := ⟨r - 1, by omega⟩
              have he : (((e + 1 : Nat) : Int) - 1) = (e : Int) := by omega
              rw [he]
              have e0 : (0 : Int) ≤ (e : Int) := by omega
              have e1 : (e : Int) < (js.length : Int) := by omega
              have hel : e < js.length := by omega
              obtain ⟨j, hj⟩ : ∃ j, js[e]? = some j := ⟨_, List.getElem?_eq_getElem hel⟩
              have hmem := List.mem_of_getElem? hj
              have hdr : js.drop e = j :: js.drop (e + 1) := by
                rw [List.drop_eq_getElem_cons hel]
                congr 1
                rw [List.getElem?_eq_getElem hel] at hj
                exact Option.some.inj hj
              obtain ⟨x, y'⟩ := j
              have HMN : Hid (Co.Meets k (js.drop e) (Co.joinI k M2 x y')) := by
                show Co.Meets _ _ _
                rw [hdr]
                exact Co.Meets.more hst.t.is.norm hmt (x, y')
              have hcells : ∀ V, Below w.heap.size w V → ∃ b' o' : Nat, ao = some ⟨b', o', none⟩ ∧ V.cell? ⟨b', o' + e * 2, none⟩ = some (.int .i64 x) ∧ V.cell? ⟨b', o' + e * 2 + 1, none⟩ = some (.int .i64 y') := fun V hb => (HQ.out.hat.later hb) e (x, y') hj
              obtain ⟨b', o', hao, k0, k1⟩ := hcells wr hst.below
              subst hao
              have HCELLS := Nu.hid hcells
              have HJT := Nu.hid (join_t hst.drew HD.out HBt.out x y')
              have HSUBN : Hid (Co.Sub k js (Co.joinI k M2 x y')) := hsub.joinI hst.t.is.norm (fun f hf h1 h2 => hf _ hmem h1 h2)
              clear hst hsub hmt hj hmem hdr hcells he
              go_wp2_with fail
              go_region_held3 (fun V => V.cell? ⟨b', o' + e * 2, none⟩ = some (.int .i64 x) ∧ V.cell? ⟨b', o' + e * 2 + 1, none⟩ = some (.int .i64 y'))
                (first | exact ⟨k0, k1⟩ | exact h6)
                ((go_at_call 15; refine HJT.out.mono ?_; rintro r w6 ⟨rfl, h5, h5w⟩; obtain ⟨b2, o2, e2, h6⟩ := HCELLS.out w6 h5.below; cases e2))
              have H5 := Nu.hid h5
              clear h5 h5w h6 HJT
              go_wp2
              go_roundw
              case rel => exact ⟨e, _, by omega, by go_num, H5.out, HSUBN.out, HMN.out⟩
              case measure => simp [intOf] <;> omega
            · obtain rfl : r = 0 := by omega
              have hneg : ¬ (0 : Int) ≤ ((0 : Nat) : Int) - 1 := by omega
              rw [List.drop_zero] at hmt
              have hG2 : Co.Gen k js M2 := ⟨hst.t.is.norm, hmt, hsub⟩
              have heq : ∀ x, x < k → M2 x = Ms x := fun x hx => hG2.unique HGEN.out HGEN.out.meets hmt hx
              have hst2 : St w (some (p, gp, gt)) (some (P, gP, gT)) k Ms Ms wr := ⟨hst.s, hst.t.congr heq, hst.below⟩
              have HST3 := Nu.hid hst2
              clear hst hsub hmt hG2 heq hst2
              have hz : (((0 : Nat) : Int) - 1) = -1 := by omega
              rw [hz] at hneg ⊢
              clear hz
              go_wp2
              -- once more
              go_loopw [121] (fun cv wr => ∃ i : Nat, i ≤ js.length ∧ cv = .int .i64 (i : Int) ∧ St w (some (p, gp, gt)) (some (P, gP, gT)) k Ms Ms wr) (fun cv _ => js.length - (intOf cv).toNat)
              case atStart => exact ⟨0, Nat.zero_le _, rfl, HST3.out⟩
              case round =>
                obtain ⟨e, he, rfl, hst⟩ := hrel
                have HST4 := Nu.hid hst
                by_cases hel : e < js.length
                · have e0 : (0 : Int) ≤ (e : Int) := by omega
                  have e1 : (e : Int) < (js.length : Int) := by omega
                  obtain ⟨j, hj⟩ : ∃ j, js[e]? = some j := ⟨_, List.getElem?_eq_getElem hel⟩
                  have hap := Co.apart_done HGEN.out.meets (List.mem_of_getElem? hj)
                  obtain ⟨x, y'⟩ := j
                  dsimp only at hap
                  have hjj := Co.joinI_done hap
                  have hcells : ∀ V, Below w.heap.size w V → ∃ b' o' : Nat, ao = some ⟨b', o', none⟩ ∧ V.cell? ⟨b', o' + e * 2, none⟩ = some (.int .i64 x) ∧ V.cell? ⟨b', o' + e * 2 + 1, none⟩ = some (.int .i64 y') := fun V hb => (HQ.out.hat.later hb) e (x, y') hj
                  obtain ⟨b', o', hao, k0, k1⟩ := hcells wr hst.below
                  subst hao
                  have hjt := join_t hst.drew HD.out HBt.out x y'
                  rw [hap, hjj] at hjt
                  have HJT := Nu.hid hjt
                  have HCELLS := Nu.hid hcells
                  clear hst hj hap hjj hcells hjt
                  go_wp2_with fail
                  go_region_held3 (fun V => V.cell? ⟨b', o' + e * 2, none⟩ = some (.int .i64 x) ∧ V.cell? ⟨b', o' + e * 2 + 1, none⟩ = some (.int .i64 y'))
                    (first | exact ⟨k0, k1⟩ | exact h6)
                    ((go_at_call 15; refine HJT.out.mono ?_; rintro r w6 ⟨rfl, h5, h5w⟩; obtain ⟨b2, o2, e2, h6⟩ := HCELLS.out w6 h5.below; cases e2))
                  have H5 := Nu.hid h5
                  clear h5 h5w h6 HJT
                  go_wp2
                  go_roundw
                  case rel => exact ⟨e + 1, by omega, by go_num, H5.out⟩
                  case measure => simp [intOf]; omega
                · have hd3 : ¬ ((e : Int) < (js.length : Int)) := by omega
                  have hg1 := fun W (hb : Below wr.heap.size wr W) => groups_any (some ⟨p, 0, none⟩) k Ms W (hst.s.later hb).is
                  have hg2 := fun W (hb : Below wr.heap.size wr W) => groups_any (some ⟨P, 0, none⟩) k Ms W (hst.t.later hb).is
                  have hc1 := fun W (hb : Below wr.heap.size wr W) => count_any (some ⟨p, 0, none⟩) k Ms W (hst.s.later hb).is
                  have hc2 := fun W (hb : Below wr.heap.size wr W) => count_any (some ⟨P, 0, none⟩) k Ms W (hst.t.later hb).is
                  have hgl := Co.gl_length Ms k k
                  rw [Co.cnt_fix] at hgl
                  obtain ⟨c, hc⟩ : ∃ c, Co.cnt k Ms = c := ⟨_, rfl⟩
                  rw [hc] at hc1 hc2 hgl hcy
                  have hgle : ∀ l ∈ Co.gl Ms k k, l.length ≤ 4611686018427387904 := fun l hl => by
                    obtain ⟨i, _, rfl⟩ := List.mem_map.1 hl
                    have := Co.mem_length Ms k i
                    omega
                  have HGL := Nu.hid hgl
                  have HGLE := Nu.hid hgle
                  have HG1 := Nu.hid hg1
                  have HG2 := Nu.hid hg2
                  have HC1 := Nu.hid hc1
                  have HC2 := Nu.hid hc2
                  have hck : ((k : Int) - (y : Int)) = (c : Int) := by omega
                  have hck2 : IntKind.i64.wrap ((k : Int) - (y : Int)) = (c : Int) := by
                    rw [hck]
                    rw [IntKind.wrap_i64]
                    omega
                  have hyk : y ≤ k := by omega
                  clear hst hg1 hg2 hc1 hc2 hgl hgle hc
                  go_wp2_with (go_at_call 19; refine (HG1.out _ (Below.refl _ _)).mono ?_; rintro r w8 ⟨v8, vs8, rfl, hr8, hb8⟩; obtain ⟨ao8, c8, hv8⟩ := row_shape hr8; have HR8 := Nu.hid hr8; have HB8 := Nu.hid hb8; clear hr8 hb8; subst hv8; refine Hid.out ?_)
                  refine Nu.hid ?_
                  go_wp2_with (go_at_call 19; refine (HG2.out _ HB8.out).mono ?_; rintro r w9 ⟨v9, vs9, rfl, hr9, hb9⟩; obtain ⟨ao9, c9, hv9⟩ := row_shape hr9; have HR9 := Nu.hid hr9; have HB9 := Nu.hid hb9; clear hr9 hb9; subst hv9; refine Hid.out ?_)
                  refine Nu.hid ?_
                  have b9 := HB8.out.trans (HB9.out.mono HB8.out.size)
                  have HB9' := Nu.hid b9
                  have HSL := Nu.hid (samelists_any _ _ _ _ _ _ _ w9 (HR8.out.later HB9.out) HR9.out (by rw [HGL.out]; omega) HGLE.out)
                  have H1 := Nu.hid (HC1.out w9 b9)
                  have H2 := Nu.hid (HC2.out w9 b9)
                  rw [HGL.out] at HSL ⊢
                  clear b9 HG1 HG2 HC1 HC2
                  have jc : ((c : Int) == (c : Int)) = true := by simp
                  go_wp2_with (go_at_call 11; refine H1.out.mono ?_; rintro r w10 ⟨rfl, hw10⟩; obtain rfl := hw10.symm; refine Hid.out ?_)
                  refine Nu.hid ?_
                  go_wp2_with (go_at_call 11; refine H2.out.mono ?_; rintro r w10 ⟨rfl, hw10'⟩; obtain rfl := hw10'.symm; refine Hid.out ?_)
                  refine Nu.hid ?_
                  go_wp2_with (go_at_call 18; refine HSL.out.mono ?_; rintro r w10 ⟨rfl, hb10⟩; have HB10 := Nu.hid hb10; clear hb10)
                  go_ret
                  have b10 := HB9'.out.trans (HB10.out.mono HB9'.out.size)
                  exact ⟨rfl, HST4.out.below.trans (b10.mono HST4.out.below.size)⟩

set_option maxRecDepth 100000 in
/-- What the walk gives, for every argument and every world. -/
theorem contract (H : Type) (enc : TypeId × Value → H) (W : World) (base : Nat) (args : Array Value) (ds gs : List (DataW H)) (before : List MemPlace)
    (hval : ∀ (j : Nat) t v, Try.f5.params[j]? = some t → args[j]? = some v → Value.okWide Try.prog W .any base t v)
    (hW : DataW.Whole enc Try.prog Try.f5.params.toList Rows.compsOrderSpec.vars false W args.toList ds gs before)
    (hsz : (DataW.weightsEach Try.prog (Try.f5.params.toList ++ (OpenSpec.ofChange Rows.compsOrderSpec).bare.plain.varTypes Try.prog) (ds ++ gs)).all (· ≤ reachBytes) = true)
    :
    Calls Try.prog 5 args W fun e W' => ∃ v, e = .returned v ∧ Rows.compsOrderSpec.post enc Try.prog Try.f5 false true false false W args v W' := by
  have hW' := hW
  obtain ⟨p, q, hA0, hV, rfl, hfz, hnd⟩ := hW
  have hA : DataW.TrodAll enc Try.prog W 0 (fun _ => true) true Try.f5.params.toList args.toList ds p := hA0
  rw [Try.params5] at hA hval hsz
  obtain ⟨v0, vs0, d0, ds0, p0, q0, hargs, rfl, rfl, h0, r0⟩ := trodAll_cons hA
  obtain ⟨v1, vs1, d1, ds1, p1, q1, rfl, rfl, rfl, h1, r1⟩ := trodAll_cons r0
  obtain ⟨v2, vs2, d2, ds2, p2, q2, rfl, rfl, rfl, h2, r2⟩ := trodAll_cons r1
  obtain ⟨rfl, rfl, rfl⟩ := trodAll_nil r2
  obtain rfl : args = #[v0, v1, v2] := by cases args; simp_all
  obtain ⟨rfl, rfl⟩ := trodVars_none hV
  obtain ⟨a0, rfl, rfl, rfl, w0⟩ := open_int Try.underlying3 (hval 0 3 v0 rfl rfl) h0
  obtain ⟨a1, len1, cap1, rfl⟩ := okWide_slice Try.underlying29 (hval 1 29 v1 rfl rfl)
  have k1 := h1
  have lt1 : ∀ x ∈ p1, x.block < W.heap.size := by obtain ⟨m, hm⟩ := k1; exact DataW.trod_lt m _ _ _ hm
  obtain ⟨q1, w1, u1⟩ := prs_of_trod (j := 1) h1 hsz rfl rfl
  have l1 := w1.hlen
  subst l1
  obtain ⟨a2, len2, cap2, rfl⟩ := okWide_slice Try.underlying30 (hval 2 30 v2 rfl rfl)
  have k2 := h2
  have lt2 : ∀ x ∈ p2, x.block < W.heap.size := by obtain ⟨m, hm⟩ := k2; exact DataW.trod_lt m _ _ _ hm
  obtain ⟨z2, w2⟩ := IsRow.of_trod (j := 2) Try.underlying30 Try.underlying3 cellsInt bytesInt h2 hsz rfl rfl
  clear hA0
  refine (walk a0 a1 cap1 q1 a2 len2 cap2 z2 W w0 w1 u1 w2).mono fun e W' ⟨he, bel⟩ => ?_
  subst he
  exact ⟨_, rfl, _, _, _, [], _, [], hW', trodAll_mk1 (shut_bool Try.underlying4 _), (trodAll_cons_mk (shut_int Try.underlying3 w0) (trodAll_cons_mk (Below.trod laidOut (by kernel_rfl) (of_decide_eq_true (by kernel_rfl)) k1 bel lt1) (trodAll_cons_mk (Below.trod laidOut (by kernel_rfl) (of_decide_eq_true (by kernel_rfl)) k2 bel lt2) trodAll_mk0))), rfl, bel.frame _, fun h => by cases h⟩

theorem laid_met (os : Os) : laidMet Try.prog Rows.compsOrderRow.laid ((settled os).forCall (fun _ _ => 0) ⟨#[], #[.int .i64 0, .slice none 0 0, .slice none 0 0], []⟩).memory :=
  laidMet_of_run' 100 (by kernel_rfl) (by kernel_rfl)
theorem reads (os : Os) {H : Type} (enc : TypeId × Value → H) : ∃ places, DataW.whole enc Try.prog ((settled os).forCall (fun _ _ => 0) ⟨#[], #[.int .i64 0, .slice none 0 0, .slice none 0 0], []⟩).memory Try.f5.params.toList Rows.compsOrderSpec.vars false (#[.int .i64 0, .slice none 0 0, .slice none 0 0] : Array Value).toList 8 = some ([.lit (.int .i64 0), .nil, .nil], [], places) :=
  ⟨[], by kernel_rfl⟩

set_option maxRecDepth 100000 in
theorem lifted (os : Os) (started : os.Started) (H : Type) (enc : TypeId × Value → H) (F : Stop.Interp) :
    ReturnsInHanded {} Try.checked os 5 .any ((OpenSpec.ofChange Rows.compsOrderSpec).preRow enc Try.prog Try.f5 Rows.compsOrderRow.domain false Rows.compsOrderRow.laid) (((OpenSpec.ofChange Rows.compsOrderSpec).at F).post enc Try.prog Try.f5 false true false false) := by
  obtain ⟨places, hx⟩ := reads os enc
  refine returnsInHanded_of_row (C := Try.checked) (s := (OpenSpec.ofChange Rows.compsOrderSpec)) own started (by kernel_rfl) Try.func5
    (witness_row_at (enc := enc) (C := Try.checked) false (settled os) #[.int .i64 0, .slice none 0 0, .slice none 0 0] rfl (by kernel_rfl) (by kernel_rfl) (by kernel_rfl)
      (OpenSpec.preRow_of_cond 8 hx (by kernel_rfl) (fun k hk => by cases hk) (by kernel_rfl) (laid_met os))) ?_
  intro W base args ds gs before hval hW _ _ hsz _ _ _
  exact contract H enc W base args ds gs before hval hW hsz 

theorem said : Rows.CompsOrderSaid :=
  OpenClaim.holds_of_cond 5 Try.f5 rfl rfl rfl rfl rfl rfl rfl ⟨rfl, rfl, rfl, rfl, rfl⟩ rfl rfl rfl rfl rfl (by kernel_rfl) Try.func5 (by kernel_rfl)
    (of_decide_eq_true (by kernel_rfl)) (by unfold Func.isWrapper; first | (rw [if_pos (by decide +kernel)]; kernel_rfl) | (rw [if_neg (by decide +kernel)]; exact ⟨rfl, rfl⟩))
    (fun os started H enc _ F => by rw [OpenClaim.pre_eq_preRow]; exact lifted os started H enc F)

end lawOrder

theorem compsOrder_holds : Rows.CompsOrderSaid := lawOrder.said

#print axioms compsOrder_holds
end Go.Proofs.Ytoaaihbeehpgfaa
