/-
  Faces, the document: Left, Genus, Flat.
-/
import Derived.Test.YtfkmldopfhdbkaaFaS
import Derived.Test.YtfkmldopfhdbkaaMg13
import Derived.Test.YtfkmldopfhdbkaaMg16
import Derived.Test.YtfkmldopfhdbkaaCoROf
import Derived.Test.YtfkmldopfhdbkaaCoRIso
namespace Go.Proofs.Ytfkmldopfhdbkaa
open Go.RowKit Go.Sort

set_option maxRecDepth 100000 in
set_option maxHeartbeats 8000000 in
theorem r12left_any (n : Int) (ao : Option Addr) (ca : Nat) (es : List (Int × Int)) (xo : Option Addr) (xc : Nat) (ls : List (List Int)) (w : World) (he : EdgesAt w ao es) (hl : es.length ≤ 4611686018427387904) (hx : RwsAt w xo ls) :
    Calls Try.prog 16 #[graphVal n ao es.length ca, .slice xo ls.length xc] w (LefQ (Ro.check n es ls).2 (Fa.left es ls) w) := by
  obtain ⟨i0, hi0, hz0, hz1, hz2⟩ := info_parts Try.infoNum
  have hb0 : Below w.heap.size w (w.alloc (.cells #[.int .i64 n, .slice ao es.length ca] 24)) := (Below.refl _ _).alloc (Nat.le_refl _) _
  have HN := Nu.hid (r12of_any n ao ca es xo xc ls _ (he.later hb0) hl (hx.later hb0))
  have HBX := Nu.hid (heap_alloc_new w (.cells #[.int .i64 n, .slice ao es.length ca] 24))
  have HB0 := Nu.hid hb0
  unfold graphVal at HN ⊢
  obtain ⟨C, hC⟩ : ∃ C, C = (Ro.check n es ls).2 := ⟨_, rfl⟩
  have HC := Nu.hid hC
  rw [← hC] at HN ⊢
  clear he hx hb0 hC
  go_enter Try.func16, Try.ntmps16
  go_wp2_with (go_at_call 13; refine HN.out.mono ?_; intro e w1 hp; obtain ⟨hb1, ⟨hc, rfl⟩ | ⟨hc, v, vs, rfl, hr0⟩⟩ := hp <;> refine Hid.out ?_)
  all_goals refine Nu.hid ?_
  · have HB := Nu.hid (HB0.out.trans (hb1.mono HB0.out.size))
    have hcb : (C != 0) = true := by simpa using hc
    have HC1 := Nu.hid hc
    clear hc hb1
    go_wp2
    go_ret2
    exact ⟨HB.out, .inl ⟨HC1.out, rfl⟩⟩
  · have hc' := hc
    rw [HC.out] at hc'
    have hro := Ro.check_iff.1 hc'
    have hv := Si.valid_iff.1 hro.val
    obtain ⟨NN, rfl⟩ : ∃ N : Nat, n = (N : Int) := ⟨n.toNat, by have := hv.lo; omega⟩
    have hper := Fa.ph_per hro
    have hfw := hv.few
    obtain ⟨m, ho⟩ := Fa.orb_ex hper
    have HO := Nu.hid ho
    have HPER := Nu.hid hper
    have HB := Nu.hid (HB0.out.trans (hb1.mono HB0.out.size))
    have HC1 := Nu.hid hc
    subst hc
    have t0 : ((0 : Int) != 0) = false := rfl
    have hs1 := HB.out.size
    obtain ⟨N, hN⟩ : ∃ N, N = 2 * es.length := ⟨_, rfl⟩
    obtain ⟨fs, hfs⟩ : ∃ fs, fs = Fa.facesTo (Fa.ph es ls) (2 * es.length) (2 * es.length) := ⟨_, rfl⟩
    have HFS := Nu.hid hfs
    have HNN := Nu.hid hN
    have hfew : N ≤ 8388608 := by omega
    have hmul : IntKind.i64.wrap ((2 : Int) * (es.length : Int)) = (N : Int) := by rw [IntKind.wrap_i64]; omega
    have hmul2 : (2 : Int) * (es.length : Int) = (N : Int) := by omega
    have hmk : ∀ W, (Instr.makeSlice 36 (.int .i64 (N : Int)) (.int .i64 (N : Int))).run Try.prog W = .ok (.slice (some ⟨W.heap.size, 0, none⟩) N N) (W.alloc (.cells (madeCells #[.int .i64 0] N) 3)) := fun W => by
      have := run_make (P := Try.prog) W 36 3 i0 (.int .i64 0) Try.underlying36 hi0 hz0 .i64 .i64 (N : Int) (N : Int) (by omega) (Int.le_refl _) (by rw [hz2]; omega) (by omega)
      rw [this, hz1]
      simp [Value.cells]
    have hfl : fs.length ≤ N := by
      rw [hfs, hN, Fa.facesTo_len HPER.out HO.out (Nat.le_refl _)]
      exact Co.cntTo_le _ _
    have HMEM : Hid (∀ (k : Nat) (l : List Nat), fs[k]? = some l → l.length ≤ N ∧ ∀ x ∈ l, x < N) := fun k l hkl => by
      rw [hfs] at hkl
      obtain ⟨r, hr, -, rfl, -⟩ := Fa.face_at HPER.out HO.out hkl
      obtain ⟨p, hp⟩ := Fa.len_ex HPER.out hr
      refine ⟨?_, fun x hx => ?_⟩
      · rw [Fa.face_way hp, Fa.way_len, hN]
        exact hp.le
      · rw [hN]
        exact ((Fa.mem_face HPER.out HO.out hr).1 hx).1
    have hbx1 : w1.heap[w.heap.size]? = some (.cells #[.int .i64 (NN : Int), .slice ao es.length ca] 24 (0, 0)) := (hb1.block _ (lt_of_block HBX.out)).trans HBX.out
    obtain ⟨gx0, gx1, -⟩ := pair_cells hbx1
    obtain ⟨w2, hw2⟩ : ∃ w2, w2 = w1.alloc (.cells (madeCells #[.int .i64 0] N) 3) := ⟨_, rfl⟩
    have hb2 : Below w1.heap.size w1 w2 := by rw [hw2]; exact (Below.refl _ _).alloc (Nat.le_refl _) _
    have HI3 : Hid (IntsBlk w2 w1.heap.size (Fa.lay fs 0 (List.replicate N 0))) := by rw [hw2]; exact made_blk rfl
    have HB3 := Nu.hid (HB.out.trans (hb2.mono HB.out.size))
    have hfz : Fa.all es ls = fs.map Fa.zl := by
      unfold Fa.all Fa.facesZ
      rw [HFS.out]
    rw [hfz] at hr0
    obtain ⟨fo, fc, hfe⟩ := row_shape hr0
    rw [List.length_map] at hfe
    obtain ⟨K, hK⟩ : ∃ K, K = fs.length := ⟨_, rfl⟩
    rw [← hK] at hfe hfl
    subst hfe
    have HRLT : Hid (∀ b', ((Value.slice fo K fc).ownBlock = some b' ∨ inV vs b') → b' < w1.heap.size) := fun b' hb' => by
      rcases hb' with hb' | ⟨u, z, hz, hzb⟩
      · exact (World.ownsRow.lt hr0.outer b' hb').2
      · obtain ⟨l, hl⟩ := hr0.at hz
        exact (World.ownsRow.lt (hr0.row u z l hz hl) b' hzb).2
    have HR := Nu.hid ((hr0.later hb2).lower (B' := w.heap.size) (by simp))
    have HK := Nu.hid hK
    have HW2 := Nu.hid hw2
    have hr := hr0
    clear hb1 hro hv hper ho hb2 hfs hN hbx1 hr0 hfw
    have hb : True := trivial
    clear hb hr hfz hK hw2
    go_wp2
    rw [← HW2.out]
    clear hmk gx0 gx1 HW2
    go_loopw [9] (fun c wr => ∃ k : Nat, k ≤ K ∧ c = .int .i64 (k : Int) ∧ IntsBlk wr w1.heap.size (Fa.lay fs k (List.replicate N 0)) ∧ RowsZ wr w.heap.size (.slice fo K fc) vs (fs.map Fa.zl) ∧ Below w.heap.size w wr) (fun c _ => K - (intOf c).toNat)
    case atStart => exact ⟨0, Nat.zero_le _, rfl, HI3.out, HR.out, HB3.out⟩
    case round =>
      obtain ⟨k, hk, rfl, hI, hR, hb⟩ := hrel
      obtain ⟨W0, rfl⟩ : ∃ W0, W0 = wr := ⟨_, rfl⟩
      have HI := Nu.hid hI
      have HRR := Nu.hid hR
      have HBB := Nu.hid hb
      have hwk : IntKind.i64.wrap ((k : Int) + 1) = (k : Int) + 1 := by rw [IntKind.wrap_i64]; omega
      by_cases hlt : k < K
      · have hlti : (k : Int) < (K : Int) := by omega
        have hk0 : (0 : Int) ≤ (k : Int) := by omega
        obtain ⟨l, hlk⟩ : ∃ l, fs[k]? = some l := ⟨_, List.getElem?_eq_getElem (by rw [← HK.out]; exact hlt)⟩
        have hlz : (fs.map Fa.zl)[k]? = some (Fa.zl l) := by rw [List.getElem?_map, hlk]; rfl
        obtain ⟨x, hx⟩ := hR.at' hlz
        obtain ⟨yo, yc, hye, hya, hyb⟩ := (hR.row k x _ hx hlz).form
        rw [Fa.zl_len] at hye
        obtain ⟨p, hp⟩ : ∃ p, p = l.length := ⟨_, rfl⟩
        rw [← hp] at hye
        subst hye
        obtain ⟨gf, cf, efo⟩ : ∃ g c, (Value.slice fo K fc) = .slice (some ⟨g, 0, none⟩) K c := by
          rcases hR.outer.2 with ⟨e, _⟩ | ⟨g, cap, cur, e, _⟩
          · cases e
            omega
          · cases e
            exact ⟨_, _, rfl⟩
        cases efo
        have hcr := World.ownsRow.cells hR.outer (g := gf) rfl k _ hx
        have ea : ((⟨gf, 0, none⟩ : Addr).add k) = ⟨gf, k, none⟩ := by
          by_cases h0 : k = 0 <;> simp [Addr.add, h0]
        rw [ea] at hcr
        obtain ⟨hpN, hxl⟩ := HMEM.out k l hlk
        rw [← hp] at hpN
        have HLK := Nu.hid hlk
        have HX := Nu.hid hx
        have HEA := Nu.hid ea
        have HYA : Hid (∀ W, (∀ b, b ≠ w1.heap.size → W.heap[b]? = W0.heap[b]?) → IntsAt W yo (Fa.zl l)) := fun W hW j z hj => by
          obtain ⟨b, o, e, hc⟩ := hya j z hj
          refine ⟨b, o, e, ?_⟩
          have hb2 : b < w1.heap.size := HRLT.out b (.inr ⟨k, _, HX.out, by rw [e]; rfl⟩)
          rw [← hc]
          simp only [World.cell?]
          rw [hW b (by omega)]
        have HXL := Nu.hid hxl
        have HP := Nu.hid hp
        clear hI hR hb hlk hlz hx hya hyb hxl hp ea hcr
        go_wp2
        go_loopw [10] (fun c wr => ∃ i : Nat, i ≤ p ∧ c = .int .i64 (i : Int) ∧ IntsBlk wr w1.heap.size (Fa.put1 k (l.take i) (Fa.lay fs k (List.replicate N 0))) ∧ (∀ b, b ≠ w1.heap.size → wr.heap[b]? = W0.heap[b]?) ∧ RowsZ wr w.heap.size (.slice (some ⟨gf, 0, none⟩) K fc) vs (fs.map Fa.zl) ∧ Below w.heap.size w wr) (fun c _ => p - (intOf c).toNat)
        case atStart => exact ⟨0, Nat.zero_le _, rfl, HI.out, fun _ _ => rfl, HRR.out, HBB.out⟩
        case round =>
          obtain ⟨i, hi', rfl, hI, hsm, hR, hb⟩ := hrel
          obtain ⟨W1, rfl⟩ : ∃ W1, W1 = wr := ⟨_, rfl⟩
          have HI1 := Nu.hid hI
          have HR1 := Nu.hid hR
          have HB1 := Nu.hid hb
          have HSM := Nu.hid hsm
          have hcr1 := World.ownsRow.cells hR.outer (g := gf) rfl k _ HX.out
          rw [HEA.out] at hcr1
          have hwi : IntKind.i64.wrap ((i : Int) + 1) = (i : Int) + 1 := by rw [IntKind.wrap_i64]; omega
          by_cases hip : i < p
          · have hipi : (i : Int) < (p : Int) := by omega
            have hi0' : (0 : Int) ≤ (i : Int) := by omega
            obtain ⟨x, hx⟩ : ∃ x, l[i]? = some x := ⟨_, List.getElem?_eq_getElem (by rw [← HP.out]; exact hip)⟩
            have hxN := HXL.out x (List.mem_of_getElem? hx)
            obtain ⟨b, o, rfl, hcx⟩ := HYA.out W1 hsm i (x : Int) (Fa.zl_at hx)
            have hxni : (x : Int) < (N : Int) := by omega
            have hx0 : (0 : Int) ≤ (x : Int) := by omega
            have hlen : (Fa.put1 k (l.take i) (Fa.lay fs k (List.replicate N 0))).length = N := by rw [Fa.put1_len, Fa.lay_len]; simp
            obtain ⟨z, hz⟩ : ∃ z, (Fa.put1 k (l.take i) (Fa.lay fs k (List.replicate N 0)))[x]? = some z := ⟨_, List.getElem?_eq_getElem (by rw [hlen]; exact hxN)⟩
            have hcz := hI.cell hz
            have hfr := hI.free x
            have HI3 : Hid (IntsBlk (W1.setCell ⟨w1.heap.size, x, none⟩ (.int .i64 (k : Int))) w1.heap.size (Fa.put1 k (l.take (i + 1)) (Fa.lay fs k (List.replicate N 0)))) := by
              have e1 : l.take (i + 1) = l.take i ++ [x] := by
                rw [List.take_add_one, hx]
                rfl
              rw [e1, Fa.put1_snoc]
              exact hI.set x (k : Int)
            have HS3 : Hid (∀ b, b ≠ w1.heap.size → (W1.setCell ⟨w1.heap.size, x, none⟩ (.int .i64 (k : Int))).heap[b]? = W0.heap[b]?) := fun b hb => (blk_same hb _).trans (hsm b hb)
            have HR3 : Hid (RowsZ (W1.setCell ⟨w1.heap.size, x, none⟩ (.int .i64 (k : Int))) w.heap.size (.slice (some ⟨gf, 0, none⟩) K fc) vs (fs.map Fa.zl)) := hR.kept fun b' hb' _ => blk_same (fun e => by
              have := HRLT.out b' hb'
              omega) _
            have HB3' : Hid (Below w.heap.size w (W1.setCell ⟨w1.heap.size, x, none⟩ (.int .i64 (k : Int)))) := hb.setCell hs1 _
            clear hI hR hb hx hz hlen hsm
            go_wp2
            go_roundw
            case rel => exact ⟨i + 1, by omega, by go_num, HI3.out, HS3.out, HR3.out, HB3'.out⟩
            case measure => simp [intOf]; omega
          · have hd : ¬ (i : Int) < (p : Int) := by omega
            have HI3 : Hid (IntsBlk W1 w1.heap.size (Fa.lay fs (k + 1) (List.replicate N 0))) := by
              have e1 : l.take i = l := List.take_of_length_le (by rw [← HP.out]; omega)
              rw [e1] at hI
              have e2 : fs.getD k [] = l := by rw [List.getD_eq_getElem?_getD, HLK.out]; rfl
              show IntsBlk W1 w1.heap.size (Fa.put1 k (fs.getD k []) _)
              rw [e2]
              exact hI
            clear hI hR hb hsm
            go_wp2
            go_roundw
            case rel => exact ⟨k + 1, by omega, by go_num, HI3.out, HR1.out, HB1.out⟩
            case measure => simp [intOf]; omega
      · have hd : ¬ (k : Int) < (K : Int) := by omega
        have HIe : Hid (OwnZ W0 w.heap.size (.slice (some ⟨w1.heap.size, 0, none⟩) N N) (Fa.left es ls)) := by
          have e1 : Fa.lay fs k (List.replicate N 0) = Fa.left es ls := by
            unfold Fa.left
            rw [← HFS.out, ← HNN.out, ← HK.out]
            have : k = K := by omega
            rw [this]
          rw [e1] at hI
          exact hI.own hs1 (by rw [Fa.left_len, HNN.out]) hfew
        clear hI hR hb
        go_wp2
        go_ret2
        exact ⟨HBB.out, .inr ⟨rfl, _, rfl, HIe.out⟩⟩

end Go.Proofs.Ytfkmldopfhdbkaa
