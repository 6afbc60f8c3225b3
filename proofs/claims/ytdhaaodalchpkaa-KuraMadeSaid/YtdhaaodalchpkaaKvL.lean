/-
  Layer 15, the program: threeAndThree.
-/
import Derived.Test.YtdhaaodalchpkaaKvJ
import Derived.Test.YtdhaaodalchpkaaKvK
namespace Go.Proofs.Ytdhaaodalchpkaa
open Go.RowKit Go.Sort Go.Maps

namespace Ku
/-- Is the k-th joined to the first? -/
def jnd (R : List (List Int)) (L : List Int) (k : Nat) : Bool := (opn R R.length (gI L 0, gI L k)).isSome
def nearK (R : List (List Int)) (L : List Int) : Nat → List Int
  | 0 => []
  | k + 1 => if jnd R L k then nearK R L k else nearK R L k ++ [gI L k]
def farK (R : List (List Int)) (L : List Int) : Nat → List Int
  | 0 => []
  | k + 1 => if jnd R L k then farK R L k ++ [gI L k] else farK R L k
theorem nf_length (R : List (List Int)) (L : List Int) (k : Nat) : (nearK R L k).length + (farK R L k).length = k := by
  induction k with
  | zero => rfl
  | succ k ih =>
    unfold nearK farK
    split <;> simp <;> omega
def cin (x : Int) (F : List Int) : Nat → List (Int × Int)
  | 0 => []
  | j + 1 => cin x F j ++ [(x, gI F j)]
def cout (N F : List Int) : Nat → List (Int × Int)
  | 0 => []
  | i + 1 => cout N F i ++ cin (gI N i) F F.length
theorem cin_length (x : Int) (F : List Int) (j : Nat) : (cin x F j).length = j := by
  induction j with
  | zero => rfl
  | succ j ih => simp [cin, ih]
theorem cout_length (N F : List Int) (i : Nat) : (cout N F i).length = i * F.length := by
  induction i with
  | zero => simp [cout]
  | succ i ih =>
    unfold cout
    rw [List.length_append, cin_length, ih, Nat.succ_mul]
/-- What threeAndThree answers. -/
def TriP (B : Nat) (cs : List Value) (R : List (List Int)) (L : List Int) (q : Nat) (w : World) (e : Ending) (w' : World) : Prop :=
  ((nearK R L q).length ≠ 3 ∧ e = .returned (.tuple #[noKura, .bool false]) ∧ Below w.heap.size w w') ∨
  ((nearK R L q).length = 3 ∧ ∃ bv, OwnZ w' w.heap.size bv (nearK R L q ++ farK R L q) ∧ (∀ (b : Nat) (k v pv r : Value), bv.ownBlock = some b → e = .returned (.tuple #[.agg #[k, v, pv], r]) → w.heap.size ≤ b ∧ pv.ownBlock ≠ some b) ∧ KurP B cs R 2 bv (cout (nearK R L q) (farK R L q) 3) w e w')
theorem nfK_yes {R : List (List Int)} {L : List Int} {k : Nat} (h : jnd R L k = true) : nearK R L (k + 1) = nearK R L k ∧ farK R L (k + 1) = farK R L k ++ [gI L k] := by
  simp only [nearK, farK]
  rw [if_pos h, if_pos h]
  exact ⟨rfl, rfl⟩
theorem nfK_no {R : List (List Int)} {L : List Int} {k : Nat} (h : jnd R L k = false) : nearK R L (k + 1) = nearK R L k ++ [gI L k] ∧ farK R L (k + 1) = farK R L k := by
  have h' : ¬ (jnd R L k = true) := by rw [h]; simp
  simp only [nearK, farK]
  rw [if_neg h', if_neg h']
  exact ⟨rfl, rfl⟩
theorem gI_small {L : List Int} (h : ∀ x ∈ L, 0 ≤ x ∧ x < 1048576) {k : Nat} (hk : k < L.length) : 0 ≤ gI L k ∧ gI L k < 1048576 := by
  obtain ⟨x, hx⟩ : ∃ x, L[k]? = some x := ⟨_, List.getElem?_eq_getElem hk⟩
  rw [gI_at hx]
  exact h x (List.mem_of_getElem? hx)
end Ku

set_option maxRecDepth 100000 in
set_option maxHeartbeats 8000000 in
theorem vtri_any (B : Nat) (ca : Option Addr) (J cc mb nb : Nat) (cs : List Value) (R : List (List Int)) (bo : Option Addr) (q bc : Nat) (L : List Int) (w : World)
    (hJ : R.length = J) (hBw : B ≤ w.heap.size) (hR : RowsZ w B (.slice ca J cc) cs R) (hS : Ku.Small R) (hom : Ku.OM w mb nb (Ku.opn R R.length)) (hmb : ¬ inV cs mb) (hq : L.length = q) (hq6 : q = 6) (hL : IntsAt w bo L) (hLs : ∀ x ∈ L, 0 ≤ x ∧ x < 1048576)
    (hin : (Ku.nearK R L q).length = 3 → ∀ p ∈ Ku.cout (Ku.nearK R L q) (Ku.farK R L q) 3, In64 (Ku.key p)) (hd : (Ku.nearK R L q).length = 3 → ∀ (t t' : Nat) (p p' : Int × Int), t ≠ t' → (Ku.cout (Ku.nearK R L q) (Ku.farK R L q) 3)[t]? = some p → (Ku.cout (Ku.nearK R L q) (Ku.farK R L q) 3)[t']? = some p' → Ku.key p ≠ Ku.key p') :
    Calls Try.prog 32 #[.agg #[.slice ca J cc, .map (some mb)], .slice bo q bc] w (Ku.TriP B cs R L q w) := by
  obtain ⟨W1, hW1⟩ : ∃ W1, W1 = w.alloc (.cells #[.slice ca J cc, .map (some mb)] 70) := ⟨_, rfl⟩
  obtain ⟨W, hW⟩ : ∃ W, W = W1.alloc (.cells #[.int .i64 0, .slice none 0 0, .slice none 0 0] 38) := ⟨_, rfl⟩
  have hs1 : W1.heap.size = w.heap.size + 1 := by rw [hW1]; simp
  have hB1 : Below w.heap.size w W1 := by rw [hW1]; exact (Below.refl _ _).alloc (Nat.le_refl _) _
  have hB2 : Below W1.heap.size W1 W := by rw [hW]; exact (Below.refl _ _).alloc (Nat.le_refl _) _
  have hBW : Below w.heap.size w W := hB1.trans (hB2.mono hB1.size)
  have g1 : W.heap[w.heap.size]? = some (.cells #[.slice ca J cc, .map (some mb)] 70 (0, 0)) := by
    rw [hB2.block _ (by omega), hW1]
    exact heap_alloc_new w _
  have g2 : W.heap[w.heap.size + 1]? = some (.cells #[.int .i64 0, .slice none 0 0, .slice none 0 0] 38 (0, 0)) := by rw [hW, ← hs1]; exact heap_alloc_new W1 _
  have hWs : w.heap.size + 1 < W.heap.size := lt_of_block g2
  have HW : Hid (W = (w.alloc (.cells #[.slice ca J cc, .map (some mb)] 70)).alloc (.cells #[.int .i64 0, .slice none 0 0, .slice none 0 0] 38)) := by rw [hW, hW1]; exact Nu.hid rfl
  have HLOW : Hid (∀ b, inV cs b → b < w.heap.size) := fun b hb => (hR.within (.inr hb)).2
  have HG1 := Nu.hid g1
  have HG2 := Nu.hid g2
  have HBW := Nu.hid hBW
  have HL := Nu.hid hL
  have HQ := Nu.hid hq
  obtain ⟨N, hN⟩ : ∃ N, Ku.nearK R L q = N := ⟨_, rfl⟩
  obtain ⟨F, hF⟩ : ∃ F, Ku.farK R L q = F := ⟨_, rfl⟩
  have hNF : N.length + F.length = q := by rw [← hN, ← hF]; exact Ku.nf_length R L q
  have HKU : Hid (∀ (U : World) (xa : Option Addr) (xn xc : Nat) (pa : Option Addr) (pn pc : Nat), N.length = 3 → pn = (Ku.cout N F 3).length → Below W.heap.size W U → EdgesAt U pa (Ku.cout N F 3) → (∀ x, pa = some x → W.heap.size ≤ x.block) → Calls Try.prog 52 #[.agg #[.slice ca J cc, .map (some mb)], .int .i64 2, .slice xa xn xc, .slice pa pn pc] U (Ku.KurP B cs R 2 (.slice xa xn xc) (Ku.cout N F 3) U)) := fun U xa xn xc pa pn pc h3 hpn hU hpa hpb => by
    have hbl : Below w.heap.size w U := hBW.trans (hU.mono hBW.size)
    refine vkura_any B ca J cc mb nb cs R 2 xa xn xc pa pn pc (Ku.cout N F 3) U hJ (Nat.le_trans hBw hbl.size) (hR.later hbl) hS (hom.later hbl) hmb hpn.symm ?_ hpa (fun x hx hi => ?_) (by rw [← hN, ← hF]; exact hin (by rw [hN]; exact h3)) (by rw [← hN, ← hF]; exact hd (by rw [hN]; exact h3))
    · rw [hpn, Ku.cout_length]
      omega
    · have h1 := hpb x hx
      have h2 := HLOW.out _ hi
      omega
  have HLK : Hid (∀ (U : World) (k : Nat), k < q → Below W.heap.size W U → (Instr.lookup 68 (.map (some mb)) (.agg #[.int .i64 (Ku.gI L 0), .int .i64 (Ku.gI L k)]) true).run Try.prog U = .ok (.tuple #[.int .i64 (((Ku.opn R R.length (Ku.gI L 0, Ku.gI L k)).getD 0 : Nat) : Int), .bool (Ku.jnd R L k)]) U) := fun U k hk hU => by
    have a := Ku.gI_small hLs (k := 0) (by omega)
    have b := Ku.gI_small hLs (k := k) (by omega)
    exact (hom.later (hBW.trans (hU.mono hBW.size))).look1 (p := (Ku.gI L 0, Ku.gI L k)) (by unfold In64; dsimp only; omega)
  have HN := Nu.hid hN
  have HF := Nu.hid hF
  have HQ6 := Nu.hid hq6
  have hql : q ≤ 6 := by omega
  have hqp : 0 < q := by omega
  clear hW hW1 hs1 hB1 hB2 hBW g1 g2 hR hS hom hmb hq hL hin hd hJ hLs hN hF hq6
  go_enter Try.func32, Try.ntmps32
  go_wp2_with fail
  rw [← HW.out]
  go_loopw [6, 7, 19] (fun nv fv cv wr => ∃ (i : Nat), i ≤ q ∧ cv = .int .i64 (i : Int) ∧ OwnZ wr W.heap.size nv (Ku.nearK R L i) ∧ OwnZ wr W.heap.size fv (Ku.farK R L i) ∧ (∀ b, nv.ownBlock = some b → fv.ownBlock ≠ some b) ∧ Below W.heap.size W wr) (fun _ _ cv _ => q - (intOf cv).toNat)
  case atStart => exact ⟨0, Nat.zero_le _, rfl, OwnZ.nil _ _, OwnZ.nil _ _, fun b hb => (by cases hb), Below.refl _ _⟩
  case round =>
    obtain ⟨i, hi, rfl, hno, hfo, hap, hb⟩ := hrel
    obtain ⟨U, rfl⟩ : ∃ U, U = wr := ⟨wr, rfl⟩
    have HNO := Nu.hid hno
    have HFO := Nu.hid hfo
    have HAP := Nu.hid hap
    have HB := Nu.hid hb
    have hwi : IntKind.i64.wrap ((i : Int) + 1) = (i : Int) + 1 := by rw [IntKind.wrap_i64]; omega
    obtain ⟨na, nc, hne, hni, -⟩ := hno.form
    obtain ⟨fa, fc, hfe, hfi, -⟩ := hfo.form
    have hnl := Ku.nf_length R L i
    obtain ⟨kn, hkn⟩ : ∃ kn, (Ku.nearK R L i).length = kn := ⟨_, rfl⟩
    obtain ⟨kf, hkf⟩ : ∃ kf, (Ku.farK R L i).length = kf := ⟨_, rfl⟩
    rw [hkn] at hne hnl
    rw [hkf] at hfe hnl
    subst hne
    subst hfe
    have HKN := Nu.hid hkn
    have HKF := Nu.hid hkf
    have HNI := Nu.hid hni
    have HFI := Nu.hid hfi
    have hsU := hb.size
    clear hkn hkf hap hni hfi
    by_cases hlt : i < q
    · have hlti : (i : Int) < (q : Int) := by omega
      have hi0 : (0 : Int) ≤ (i : Int) := by omega
      have hq0 : (0 : Int) < (q : Int) := by omega
      obtain ⟨x, hx⟩ : ∃ x, L[i]? = some x := ⟨_, List.getElem?_eq_getElem (by rw [HQ.out]; exact hlt)⟩
      obtain ⟨x0, hx0⟩ : ∃ x, L[0]? = some x := ⟨_, List.getElem?_eq_getElem (by rw [HQ.out]; omega)⟩
      have hbw : Below w.heap.size w U := HBW.out.trans (hb.mono HBW.out.size)
      obtain ⟨b, o, rfl, e0⟩ := (HL.out.later hbw) i x hx
      obtain ⟨_, _, ee, e1⟩ := (HL.out.later hbw) 0 x0 hx0
      cases ee
      rw [Nat.add_zero] at e1
      obtain ⟨-, c1, -⟩ := pair_cells ((hb.block _ (by omega)).trans HG1.out)
      have HGX := Nu.hid (Ku.gI_at hx)
      obtain ⟨jn, hjn⟩ : ∃ jn, Ku.jnd R L i = jn := ⟨_, rfl⟩
      obtain ⟨ci, hci⟩ : ∃ ci, (((Ku.opn R R.length (Ku.gI L 0, Ku.gI L i)).getD 0 : Nat) : Int) = ci := ⟨_, rfl⟩
      have hlk : ∀ D : LW U, (Instr.lookup 68 (.map (some mb)) (.agg #[.int .i64 x0, .int .i64 x]) true).run Try.prog D.val = .ok (.tuple #[.int .i64 ci, .bool jn]) D.val := fun D => by
        have := HLK.out D.val i hlt (hb.trans (D.h.mono hsU))
        rw [hci, hjn, Ku.gI_at hx, Ku.gI_at hx0] at this
        exact this
      have d1 : ∀ D : LW U, D.val.cell? ⟨b, o, none⟩ = some (.int .i64 x0) := fun D => (D.h.cell (p := ⟨b, o, none⟩) (block_lt_of_cell e1)).trans e1
      have d2 : ∀ D : LW U, D.val.cell? ⟨w.heap.size, 1, none⟩ = some (.map (some mb)) := fun D => (D.h.cell (p := ⟨w.heap.size, 1, none⟩) (block_lt_of_cell c1)).trans c1
      have hne := LW.any U
      have HJN := Nu.hid hjn
      clear hno hfo hb hx hx0 hbw hci hjn e1
      go_wp2_with fail
      refine wp_region_lw (by kernel_rfl) (by kernel_rfl) ?_
      repeat (go_big_quiet_step (fail))
      refine wpQuiet_nil ?_
      rintro _ ⟨E, rfl⟩
      have HBE := Nu.hid (HB.out.trans (E.h.mono hsU))
      have HNE := Nu.hid (HNO.out.later E.h)
      have HFE := Nu.hid (HFO.out.later E.h)
      obtain ⟨V, hV⟩ : ∃ V, V = E.val := ⟨_, rfl⟩
      rw [← hV] at HBE HNE HFE ⊢
      have hsV : W.heap.size ≤ V.heap.size := HBE.out.size
      clear d1 d2 hlk hne hV c1 e0
      cases jn with
      | true =>
        obtain ⟨hn1, hf1⟩ := Ku.nfK_yes HJN.out
        rw [HGX.out] at hf1
        have HN1 := Nu.hid hn1
        have HF1 := Nu.hid hf1
        have hll : (Ku.farK R L i).length ≤ 17592186044000 := by rw [HKF.out]; omega
        clear hn1 hf1
        go_wp2_with (at_builtin; refine wpList_push rfl _ _ rfl _ W.heap.size _ _ x HFE.out hsV hll rfl rfl ?_; refine Hid.out ?_)
        refine Nu.hid ?_
        intro v' w3 hr3 hg3 hat3 hb3
        have HR3 := Nu.hid hr3
        have HB3 := Nu.hid (HBE.out.trans hb3)
        have HO3 : Hid (OwnZ w3 W.heap.size (.slice na kn nc) (Ku.nearK R L i)) := HNE.out.same fun g hg hl => (hg3.block g (by simp; omega) (fun e => HAP.out g hg e.symm)).trans (heap_alloc_old V _ hl)
        have HA3 : Hid (∀ b, (Value.slice na kn nc).ownBlock = some b → v'.ownBlock ≠ some b) := fun b hb e => by
          rcases hat3 with h | h
          · exact HAP.out b hb (h ▸ e)
          · rw [h] at e
            cases e
            have := (World.ownsRow.lt HNE.out _ hb).2
            omega
        clear hr3 hg3 hat3 hb3
        go_wp2
        go_roundw
        case rel => exact ⟨i + 1, by omega, by go_num, by rw [HN1.out]; exact HO3.out, by rw [HF1.out]; exact HR3.out, HA3.out, HB3.out⟩
        case measure => simp [intOf]; omega
      | false =>
        obtain ⟨hn1, hf1⟩ := Ku.nfK_no HJN.out
        rw [HGX.out] at hn1
        have HN1 := Nu.hid hn1
        have HF1 := Nu.hid hf1
        have hll : (Ku.nearK R L i).length ≤ 17592186044000 := by rw [HKN.out]; omega
        clear hn1 hf1
        go_wp2_with (at_builtin; refine wpList_push rfl _ _ rfl _ W.heap.size _ _ x HNE.out hsV hll rfl rfl ?_; refine Hid.out ?_)
        refine Nu.hid ?_
        intro v' w3 hr3 hg3 hat3 hb3
        have HR3 := Nu.hid hr3
        have HB3 := Nu.hid (HBE.out.trans hb3)
        have HO3 : Hid (OwnZ w3 W.heap.size (.slice fa kf fc) (Ku.farK R L i)) := HFE.out.same fun g hg hl => (hg3.block g (by simp; omega) (fun e => HAP.out g e.symm hg)).trans (heap_alloc_old V _ hl)
        have HA3 : Hid (∀ b, v'.ownBlock = some b → (Value.slice fa kf fc).ownBlock ≠ some b) := fun b hb e => by
          rcases hat3 with h | h
          · exact HAP.out b (h ▸ hb) e
          · rw [h] at hb
            cases hb
            have := (World.ownsRow.lt HFE.out _ e).2
            omega
        clear hr3 hg3 hat3 hb3
        go_wp2
        go_roundw
        case rel => exact ⟨i + 1, by omega, by go_num, by rw [HN1.out]; exact HR3.out, by rw [HF1.out]; exact HO3.out, HA3.out, HB3.out⟩
        case measure => simp [intOf]; omega
    · have hdn : ¬ ((i : Int) < (q : Int)) := by omega
      obtain rfl : i = q := by omega
      have hNl : N.length = kn := by rw [← HN.out]; exact HKN.out
      have hFl : F.length = kf := by rw [← HF.out]; exact HKF.out
      rw [HN.out] at HNO
      rw [HF.out] at HFO
      rw [HN.out] at HNI
      rw [HF.out] at HFI
      have HNL := Nu.hid hNl
      have HFL := Nu.hid hFl
      clear hno hfo hNl hFl
      by_cases h3 : kn = 3
      · have t3 : ((kn : Int) != 3) = false := by simp [h3]
        have hk3 : kn ≤ 3 := by omega
        have HK3 := Nu.hid h3
        clear h3
        go_wp2_with fail
        go_loopw [12, 50] (fun pv cv wr => ∃ (i : Nat), i ≤ kn ∧ cv = .int .i64 (i : Int) ∧ OwnP wr U.heap.size pv (Ku.cout N F i) ∧ Below U.heap.size U wr) (fun _ cv _ => kn - (intOf cv).toNat)
        case atStart => exact ⟨0, Nat.zero_le _, rfl, OwnP.nil _ _, Below.refl _ _⟩
        case round =>
          rename_i iq _ _ _ _
          obtain ⟨p, hp, rfl, hown, hbv⟩ := hrel
          obtain ⟨V, rfl⟩ : ∃ V, V = wr := ⟨wr, rfl⟩
          have HO := Nu.hid hown
          have HBV := Nu.hid hbv
          have hsV := hbv.size
          have hwp : IntKind.i64.wrap ((p : Int) + 1) = (p : Int) + 1 := by rw [IntKind.wrap_i64]; omega
          obtain ⟨pa, pc, hpe, hpat, hpb⟩ := hown.form
          by_cases hlt : p < kn
          · have hlti : (p : Int) < (kn : Int) := by omega
            have hp0 : (0 : Int) ≤ (p : Int) := by omega
            obtain ⟨x, hx⟩ : ∃ x, N[p]? = some x := ⟨_, List.getElem?_eq_getElem (by rw [HNL.out]; exact hlt)⟩
            obtain ⟨b, o, rfl, e0⟩ := (HNI.out.later hbv) p x hx
            have HGX := Nu.hid (Ku.gI_at hx)
            clear hown hpe hpat hpb hbv hx
            go_wp2_with fail
            go_loopw [12, 56] (fun pv cv wr => ∃ (j : Nat), j ≤ kf ∧ cv = .int .i64 (j : Int) ∧ OwnP wr U.heap.size pv (Ku.cout N F p ++ Ku.cin (Ku.gI N p) F j) ∧ Below U.heap.size U wr) (fun _ cv _ => kf - (intOf cv).toNat)
            case atStart => exact ⟨0, Nat.zero_le _, rfl, by rw [show Ku.cin (Ku.gI N p) F 0 = [] from rfl, List.append_nil]; exact HO.out, HBV.out⟩
            case round =>
              obtain ⟨j, hj, rfl, hown, hb2⟩ := hrel
              obtain ⟨X, rfl⟩ : ∃ X, X = wr := ⟨wr, rfl⟩
              have HO2 := Nu.hid hown
              have HB2 := Nu.hid hb2
              have hs2 := hb2.size
              have hwj : IntKind.i64.wrap ((j : Int) + 1) = (j : Int) + 1 := by rw [IntKind.wrap_i64]; omega
              by_cases hjl : j < kf
              · have hjli : (j : Int) < (kf : Int) := by omega
                have hj0 : (0 : Int) ≤ (j : Int) := by omega
                obtain ⟨y, hy⟩ : ∃ y, F[j]? = some y := ⟨_, List.getElem?_eq_getElem (by rw [HFL.out]; exact hjl)⟩
                obtain ⟨b', o', rfl, e1⟩ := (HFI.out.later hb2) j y hy
                have HNX : Hid (Ku.cout N F p ++ Ku.cin (Ku.gI N p) F (j + 1) = Ku.cout N F p ++ Ku.cin (Ku.gI N p) F j ++ [(x, y)]) := by
                  show _ = _
                  rw [List.append_assoc]
                  congr 1
                  show Ku.cin (Ku.gI N p) F j ++ [(Ku.gI N p, Ku.gI F j)] = _
                  rw [HGX.out, Ku.gI_at hy]
                have hll : (Ku.cout N F p ++ Ku.cin (Ku.gI N p) F j).length ≤ 8796093022000 := by
                  rw [List.length_append, Ku.cin_length, Ku.cout_length, HFL.out]
                  have h2 : p * kf ≤ 6 * 6 := Nat.mul_le_mul (by omega) (by omega)
                  omega
                clear hown hb2 hy
                go_wp2_with (at_builtin; refine wpList_pushP rfl _ _ rfl _ U.heap.size _ _ x y HO2.out hs2 hll rfl rfl ?_; refine Hid.out ?_)
                refine Nu.hid ?_
                intro v' w3 hrow3 hb3
                have HR3 := Nu.hid hrow3
                have HB3 := Nu.hid (HB2.out.trans hb3)
                clear hrow3 hb3
                go_wp2
                go_roundw
                case rel => exact ⟨j + 1, by omega, by go_num, by rw [HNX.out]; first | exact HR3.out | (rw [List.append_assoc]; exact HR3.out), HB3.out⟩
                case measure => simp [intOf]; omega
              · have hdj : ¬ ((j : Int) < (kf : Int)) := by omega
                obtain rfl : j = kf := by omega
                have HN9 : Hid (Ku.cout N F (p + 1) = Ku.cout N F p ++ Ku.cin (Ku.gI N p) F j) := by
                  show _ = _
                  rw [show Ku.cout N F (p + 1) = Ku.cout N F p ++ Ku.cin (Ku.gI N p) F F.length from rfl, HFL.out]
                clear hown hb2
                go_wp2
                go_roundw
                case rel => exact ⟨p + 1, by omega, by go_num, by rw [HN9.out]; exact HO2.out, HB2.out⟩
                case measure => simp [intOf]; omega
          · have hdp : ¬ ((p : Int) < (kn : Int)) := by omega
            obtain rfl : p = kn := by omega
            have hpk := HK3.out
            rw [hpk] at hpe hpat
            have hbW : Below W.heap.size W V := hb.trans (hbv.mono hsU)
            have HBWV := Nu.hid hbW
            have hNl := HNL.out
            have hFl := HFL.out
            have HPB : Hid (∀ x, pa = some x → W.heap.size ≤ x.block) := fun x hx => by have := (hpb x hx).1; omega
            have HCAT : Hid (∀ (ty : TypeId) (Y : World), Below V.heap.size V Y → Y.heap[V.heap.size]? = some (.cells #[.slice na p nc, .slice fa kf fc] ty (0, 0)) → Calls Try.prog 53 #[.slice (some ⟨V.heap.size, 0, none⟩) 2 2] Y fun e u => ∃ xa xn xc, e = .returned (.slice xa xn xc) ∧ OwnZ u V.heap.size (.slice xa xn xc) (N ++ F) ∧ Below V.heap.size V u ∧ EdgesAt u pa (Ku.cout N F 3) ∧ Below W.heap.size W u) := fun ty Y hY hbl => by
              obtain ⟨k0, k1, -⟩ := pair_cells hbl
              obtain ⟨a1, d1, g1, g2, -⟩ := OwnZ.lst (HNO.out.later (hbv.trans (hY.mono hsV)))
              obtain ⟨a2, d2, g3, g4, -⟩ := OwnZ.lst (HFO.out.later (hbv.trans (hY.mono hsV)))
              rw [hNl] at g1 g2
              rw [hFl] at g3 g4
              cases g1
              cases g3
              refine (vconcat_any V.heap.size na fa p kf nc fc N F Y k0 k1 g2 g4 (by omega) (by omega)).mono ?_
              rintro e u ⟨v, rfl, ho, hbu⟩
              have hVu : Below V.heap.size V u := hY.trans (hbu.mono hY.size)
              obtain ⟨xa, xc, hve, -, -⟩ := ho.form
              subst hve
              exact ⟨_, _, _, rfl, ho.lower hY.size, hVu, hpat.later hVu, hbW.trans (hVu.mono hbW.size)⟩
            obtain ⟨pn, hpn⟩ : ∃ pn, (Ku.cout N F 3).length = pn := ⟨_, rfl⟩
            rw [hpn] at hpe
            subst hpe
            have HPN : Hid (pn = (Ku.cout N F 3).length) := hpn.symm
            have HN3 : Hid (N.length = 3) := HNL.out.trans HK3.out
            obtain ⟨c0, c1, -⟩ := pair_cells ((hbW.block _ (by omega)).trans HG1.out)
            have HS0 : Hid (∀ Y : World, Below V.heap.size V Y → Y.cell? ⟨w.heap.size, 0, none⟩ = some (.slice ca J cc) ∧ Y.cell? ⟨w.heap.size, 1, none⟩ = some (.map (some mb))) := fun Y hY => by
              obtain ⟨c0, c1, -⟩ := pair_cells ((hY.block _ (by omega)).trans ((hbW.block _ (by omega)).trans HG1.out))
              exact ⟨c0, c1⟩
            have HS2 : Hid (∀ (u e u2 : _), Below V.heap.size V u → ∀ bv, Ku.KurP B cs R 2 bv (Ku.cout N F 3) u e u2 → u2.heap[w.heap.size]? = some (.cells #[.slice ca J cc, .map (some mb)] 70 (0, 0)) ∧ u2.heap[w.heap.size + 1]? = some (.cells #[.int .i64 0, .slice none 0 0, .slice none 0 0] 38 (0, 0))) := fun u e u2 hu bv hk => by
              have := hu.size
              exact ⟨(hk.2.block _ (by omega) (fun h => by have := HLOW.out _ h; omega)).trans ((hu.block _ (by omega)).trans ((hbW.block _ (by omega)).trans HG1.out)), (hk.2.block _ (by omega) (fun h => by have := HLOW.out _ h; omega)).trans ((hu.block _ (by omega)).trans ((hbW.block _ (by omega)).trans HG2.out))⟩
            have HS3 : Hid (∀ (u2 : World) (x y z : Value), u2.heap[w.heap.size]? = some (.cells #[.slice ca J cc, .map (some mb)] 70 (0, 0)) → (((u2.setCell ⟨w.heap.size + 1, 0, none⟩ x).setCell ⟨w.heap.size + 1, 1, none⟩ y).setCell ⟨w.heap.size + 1, 2, none⟩ z).cell? ⟨w.heap.size, 0, none⟩ = some (.slice ca J cc) ∧ (((u2.setCell ⟨w.heap.size + 1, 0, none⟩ x).setCell ⟨w.heap.size + 1, 1, none⟩ y).setCell ⟨w.heap.size + 1, 2, none⟩ z).cell? ⟨w.heap.size, 1, none⟩ = some (.map (some mb))) := fun u2 x y z h => by
              have hne : w.heap.size ≠ w.heap.size + 1 := by omega
              have e : (((u2.setCell ⟨w.heap.size + 1, 0, none⟩ x).setCell ⟨w.heap.size + 1, 1, none⟩ y).setCell ⟨w.heap.size + 1, 2, none⟩ z).heap[w.heap.size]? = some (.cells #[.slice ca J cc, .map (some mb)] 70 (0, 0)) := by
                rw [heap_setCell_other _ ⟨w.heap.size + 1, 2, none⟩ _ _ hne, heap_setCell_other _ ⟨w.heap.size + 1, 1, none⟩ _ _ hne, heap_setCell_other _ ⟨w.heap.size + 1, 0, none⟩ _ _ hne]
                exact h
              obtain ⟨c0, c1, -⟩ := pair_cells e
              exact ⟨c0, c1⟩
            have HSV := HS0.out V (Below.refl _ _)
            have HSD := HS0.out V.drew (Below.refl _ _).drew
            clear hown hpat hpb hbv hb hbW hpn hNl hFl hpk c0 c1
            go_wp2_with fail
            go_region_held3 (fun Y => Y.cell? ⟨w.heap.size, 0, none⟩ = some (.slice ca J cc) ∧ Y.cell? ⟨w.heap.size, 1, none⟩ = some (.map (some mb)))
              (first | exact HSV | exact HSD | exact hS1 | exact hS2 | exact HS3.out _ _ _ _ m1 | exact HS0.out _ ((Below.refl _ _).alloc (Nat.le_refl _) _) | exact HS0.out _ ((Below.refl _ _).alloc (Nat.le_refl _) _).drew | exact HS0.out _ ((Below.refl _ _).drew.alloc (Nat.le_refl _) _))
              (first
                | (go_at_call 53; (first | refine (HCAT.out _ _ ((Below.refl _ _).alloc (Nat.le_refl _) _) (heap_alloc_new V _)).mono ?_ | refine (HCAT.out _ _ ((Below.refl _ _).drew.alloc (Nat.le_refl _) _) (heap_alloc_new V.drew _)).mono ?_ | refine (HCAT.out _ _ ((Below.refl _ _).alloc (Nat.le_refl _) _).drew (heap_alloc_new V _)).mono ?_); rintro e u1 ⟨xa, xn, xc, rfl, ho1, hb1, hE1, hW1⟩; have hS1 := HS0.out u1 hb1)
                | (go_at_call 52; refine (HKU.out u1 xa xn xc pa pn pc HN3.out HPN.out hW1 hE1 HPB.out).mono ?_; intro e u2 hkp; obtain ⟨m1, m2⟩ := HS2.out u1 e u2 hb1 _ hkp; have hS2 := (fun (h : u2.heap[w.heap.size]? = some (.cells #[.slice ca J cc, .map (some mb)] 70 (0, 0))) => And.intro (pair_cells h).1 (pair_cells h).2.1) m1; obtain ⟨z0, z1, z2, zf⟩ := cells3_15 m2; have hf0 := zf 0; have hf1 := zf 1; have hf2 := zf 2; obtain ⟨y1, s1, s2, s3, q1, q2, q3, r, rfl⟩ := hkp.shape))
            have hsu := hb1.size
            have HOV : Hid (∀ x y z : Value, OwnZ (((u2.setCell ⟨w.heap.size + 1, 0, none⟩ x).setCell ⟨w.heap.size + 1, 1, none⟩ y).setCell ⟨w.heap.size + 1, 2, none⟩ z) w.heap.size (.slice xa xn xc) (N ++ F)) := fun x y z => (ho1.lower (by omega)).same fun g hg hl => by
              have h1 := (World.ownsRow.lt ho1 _ hg).1
              have hne : g ≠ w.heap.size + 1 := by omega
              rw [heap_setCell_other _ ⟨w.heap.size + 1, 2, none⟩ g _ hne, heap_setCell_other _ ⟨w.heap.size + 1, 1, none⟩ g _ hne, heap_setCell_other _ ⟨w.heap.size + 1, 0, none⟩ g _ hne]
              exact hkp.2.block g hl (fun h => by have := HLOW.out _ h; omega)
            have HFAR := Nu.hid (fun x y z : Value => hkp.far (w := w) (V := ((u2.setCell ⟨w.heap.size + 1, 0, none⟩ x).setCell ⟨w.heap.size + 1, 1, none⟩ y).setCell ⟨w.heap.size + 1, 2, none⟩ z) (HBW.out.trans (hW1.mono HBW.out.size)) (c := w.heap.size + 1) ⟨by omega, by omega⟩ HLOW.out (fun b hb => by rw [heap_setCell_other _ ⟨w.heap.size + 1, 2, none⟩ b _ hb, heap_setCell_other _ ⟨w.heap.size + 1, 1, none⟩ b _ hb, heap_setCell_other _ ⟨w.heap.size + 1, 0, none⟩ b _ hb]) (by simp) rfl rfl rfl)
            have HAPT : Hid (∀ (b : Nat) (k v pv r' : Value), (Value.slice xa xn xc).ownBlock = some b → Ending.returned (.tuple #[.agg #[.int .i64 y1, .slice s1 s2 s3, .slice q1 q2 q3], .bool r]) = .returned (.tuple #[.agg #[k, v, pv], r']) → w.heap.size ≤ b ∧ pv.ownBlock ≠ some b) := fun b k v pv r' hb he => by
              have hlt := World.ownsRow.lt ho1 _ hb
              refine ⟨by omega, fun e => ?_⟩
              rcases hkp.1 with ⟨_, h⟩ | ⟨_, pv2, vs2, h, _, h3, _⟩
              · rw [h] at he
                unfold Ku.noKura at he
                cases he
                cases e
              · rw [h] at he
                cases he
                have := h3 b e
                omega
            have HL3 : Hid ((Ku.nearK R L i).length = 3) := by rw [HN.out, HNL.out]; exact HK3
            clear hkp ho1 hb1 hE1 hW1 m1 m2 zf hS1 hS2 HSV HSD
            go_wp2
            refine bodyPost_ret (results_kura2 rfl rfl _ _ (w.heap.size + 1) _ _ _ _ rfl rfl (set_three15 z0 z1 z2 _ _ _).1 (set_three15 z0 z1 z2 _ _ _).2.1 (set_three15 z0 z1 z2 _ _ _).2.2) rfl ?_
            exact .inr ⟨HL3.out, _, by rw [HN.out, HF.out]; exact HOV.out _ _ _, HAPT.out, by rw [HN.out, HF.out]; exact HFAR.out _ _ _⟩
      · have t3 : ((kn : Int) != 3) = true := by simp; omega
        have HNO3 : Hid ((Ku.nearK R L i).length ≠ 3) := by rw [HN.out, HNL.out]; exact Nu.hid h3
        obtain ⟨z0, z1, z2, zf⟩ := cells3_15 ((hb.block _ (by omega)).trans HG2.out)
        have hf0 := zf 0
        have hf1 := zf 1
        have hf2 := zf 2
        have HBZ : Hid (∀ x y z : Value, Below w.heap.size w (((U.setCell ⟨w.heap.size + 1, 0, none⟩ x).setCell ⟨w.heap.size + 1, 1, none⟩ y).setCell ⟨w.heap.size + 1, 2, none⟩ z)) := fun x y z => below_set3 (HBW.out.trans (hb.mono HBW.out.size)) (by omega) x y z
        clear zf hb h3
        go_wp2
        refine bodyPost_ret (results_kura2 rfl rfl _ _ (w.heap.size + 1) _ _ _ _ rfl rfl (set_three15 z0 z1 z2 _ _ _).1 (set_three15 z0 z1 z2 _ _ _).2.1 (set_three15 z0 z1 z2 _ _ _).2.2) rfl ?_
        exact .inl ⟨HNO3.out, rfl, HBZ.out _ _ _⟩
end Go.Proofs.Ytdhaaodalchpkaa
