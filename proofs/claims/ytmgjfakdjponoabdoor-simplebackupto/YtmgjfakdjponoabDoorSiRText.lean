/-
  A graph's text, as the document writes it.
-/
import Derived.Test.YtmgjfakdjponoabDoorSiRValid
import Derived.Test.YtmgjfakdjponoabDoorSiText
namespace Go.Proofs.YtmgjfakdjponoabDoor
open Go.RowKit Go.Sort

theorem str3 (L A B : List UInt8) : (((((ByteArray.mk L.toArray ++ ByteArray.mk A.toArray) ++ ByteArray.mk #[32]) ++ ByteArray.mk B.toArray) ++ ByteArray.mk #[10])) = ByteArray.mk (L ++ (A ++ 32 :: B ++ [10])).toArray := by
  apply ByteArray.ext
  simp [ByteArray.data_append]

theorem str2 (A B : List UInt8) : ((((ByteArray.mk A.toArray) ++ ByteArray.mk #[32]) ++ ByteArray.mk B.toArray) ++ ByteArray.mk #[10]) = ByteArray.mk (A ++ 32 :: B ++ [10]).toArray := by
  apply ByteArray.ext
  simp [ByteArray.data_append]

theorem itoa_len {x : Int} (h : -9223372036854775808 ≤ x ∧ x ≤ 9223372036854775807) : (Lib.itoa x).length ≤ 21 := Lib.itoa_length_le x h.1 h.2

set_option maxRecDepth 100000 in
set_option maxHeartbeats 8000000 in
theorem rtext_any (n : Int) (ao : Option Addr) (cap : Nat) (es : List (Int × Int)) (w : World) (he : EdgesAt w ao es) (hl : es.length ≤ 4611686018427387904) (ht : Tab w) :
    Calls Tryd.prog 13 #[graphVal n ao es.length cap] w fun e w' => e = .returned (textVal (Si.text n es)) ∧ Below w.heap.size w w' := by
  have HE := Nu.hid he
  have HTAB := Nu.hid ht
  have hva := fun W (hb : Below w.heap.size w W) => rvalid_any n ao cap es W (he.later hb) hl
  unfold graphVal at hva ⊢
  have HVA := Nu.hid hva
  clear he hva ht
  have hbw0 : Below w.heap.size w (w.alloc (.cells #[.int .i64 n, .slice ao es.length cap] 24)) := (Below.refl _ _).alloc (Nat.le_refl _) _
  have HBW0 := Nu.hid hbw0
  clear hbw0
  cases hv : Si.valid n es with
  | false =>
    rw [hv] at HVA
    have ht : Si.text n es = ([], 1) := by unfold Si.text; rw [if_neg (by rw [hv]; simp)]
    rw [ht]
    unfold textVal
    go_enter Tryd.func13, Tryd.ntmps13
    go_wp2_with (go_at_call 28; refine (HVA.out _ HBW0.out).mono ?_; rintro e w' ⟨rfl, hb⟩; refine Hid.out ?_)
    refine Nu.hid ?_
    go_wp2
    go_ret2
    exact ⟨rfl, HBW0.out.trans (hb.mono HBW0.out.size)⟩
  | true =>
    rw [hv] at HVA
    have hval := Si.valid_iff.1 hv
    have hfew := hval.few
    have hlo := hval.lo
    have hhi := hval.hi
    have HVAL := Nu.hid hval
    clear hval
    have HTX := Nu.hid (show Si.text n es = _ from by unfold Si.text; rw [if_pos hv])
    go_enter Tryd.func13, Tryd.ntmps13
    go_wp2_with (go_at_call 28; refine (HVA.out _ HBW0.out).mono ?_; rintro e w' ⟨rfl, hb⟩; refine Hid.out ?_)
    refine Nu.hid ?_
    have hG : w'.heap[w.heap.size]? = some (.cells #[.int .i64 n, .slice ao es.length cap] 24 (0, 0)) := (hb.block _ (by simp)).trans (heap_alloc_new w _)
    obtain ⟨g0, g1, -⟩ := pair_cells hG
    have hsG := lt_of_block hG
    have HBW := Nu.hid (HBW0.out.trans (hb.mono HBW0.out.size))
    have hs0 : w.heap.size ≤ w'.heap.size := HBW.out.size
    clear hb hG
    by_cases hbig : 2097152 < (es.length : Int)
    · go_wp2
      go_ret2
      refine ⟨?_, HBW.out⟩
      rw [HTX.out, if_pos (by omega)]
      rfl
    have hit : ∀ (x : Int) (W : World), -9223372036854775808 ≤ x → x ≤ 9223372036854775807 → Below w'.heap.size w' W → Calls Tryd.prog 29 #[.int .i64 x] W fun e W2 => e = .returned (.string ⟨(Lib.itoa x).toArray⟩) ∧ Below W.heap.size W W2 ∧ Below w'.heap.size w' W2 := fun x W h0 h1 hb => by
      refine (Tryd.strconv_Itoa x h0 h1 W (HTAB.out.below (HBW.out.trans (hb.mono hs0)))).mono ?_
      rintro e W2 ⟨rfl, hgr⟩
      have hb2 := grown_of_grow hgr
      exact ⟨rfl, hb2, hb.trans (hb2.mono hb.size)⟩
    have HIT := Nu.hid hit
    have hla := itoa_len (x := n) (by omega)
    have hlb := itoa_len (x := (es.length : Int)) (by omega)
    have t1 : ¬ (9223372036854775807 < (Lib.itoa n).length + 1) := by omega
    have t2 : ¬ (9223372036854775807 < (Lib.itoa n).length + 1 + (Lib.itoa (es.length : Int)).length) := by omega
    have t3 : ¬ (9223372036854775807 < (Lib.itoa n).length + 1 + (Lib.itoa (es.length : Int)).length + 1) := by omega
    have hbr : Below w'.heap.size w' w'.drew := (Below.refl _ _).drew
    have hS : ∀ W, Below w'.heap.size w' W → (W.cell? ⟨w.heap.size, 0, none⟩ = some (.int .i64 n) ∧ W.cell? ⟨w.heap.size, 1, none⟩ = some (.slice ao es.length cap) ∧ Below w'.heap.size w' W) := fun W h => ⟨(h.cell (p := ⟨w.heap.size, 0, none⟩) hsG).trans g0, (h.cell (p := ⟨w.heap.size, 1, none⟩) hsG).trans g1, h⟩
    have HS := Nu.hid hS
    clear hit hS
    have HIN : Hid (∀ (j : Nat) (p : Int × Int), es[j]? = some p → (0 ≤ p.1 ∧ p.1 ≤ 1048576) ∧ 0 ≤ p.2 ∧ p.2 ≤ 1048576) := fun j p hj => by
      have := HVAL.out.each j p hj
      unfold Si.ok at this
      omega
    obtain ⟨L0, hL0⟩ : ∃ L0, L0 = Pa.row (n, (es.length : Int)) ++ [10] := ⟨_, rfl⟩
    have hL0l : L0.length ≤ 100 := by
      rw [hL0]
      simp [Pa.row]
      omega
    have HL0 := Nu.hid hL0
    clear hL0
    go_wp2_with fail
    go_region_held3 (fun W => W.cell? ⟨w.heap.size, 0, none⟩ = some (.int .i64 n) ∧ W.cell? ⟨w.heap.size, 1, none⟩ = some (.slice ao es.length cap) ∧ Below w'.heap.size w' W)
      (exact HS.out _ (by first | assumption | exact hbr))
      ((go_at_call 29; refine (HIT.out _ _ (by omega) (by omega) (by first | assumption | exact hbr)).mono ?_; rintro e W2 ⟨rfl, hbs, hbz⟩))
    all_goals
      have HB2 := Nu.hid hbz
      clear hbs hbz
      go_wp2
      go_loopw [5, 6] (fun s c wr => ∃ (k : Nat) (L : List UInt8), k ≤ es.length ∧ c = .int .i64 k ∧ L = Pa.body ((n, (es.length : Int)) :: es.take k) ∧ s = .string ⟨L.toArray⟩ ∧ Below w'.heap.size w' wr) (fun _ c _ => es.length - (intOf c).toNat)
      case atStart =>
        refine ⟨0, L0, Nat.zero_le _, rfl, by rw [HL0.out]; simp [Pa.body], ?_, HB2.out⟩
        rw [str2, HL0.out]
        simp [Pa.row]
      case round =>
        obtain ⟨k, L, hk, rfl, hL, rfl, hb2⟩ := hrel
        have hLb : L.length ≤ L0.length + 16 * k := by
          rw [hL, HL0.out]
          have := Pa.body_bound (hd := (n, (es.length : Int))) (fit := es.take k) (fun p hp => by
            obtain ⟨j, hj, e⟩ := List.mem_iff_getElem.1 hp
            rw [List.getElem_take] at e
            exact HIN.out j p (by rw [← e]; exact List.getElem?_eq_getElem _))
          rw [List.length_take] at this
          omega
        have HL := Nu.hid hL
        have HB3 := Nu.hid hb2
        have k1 := (hb2.cell (p := ⟨w.heap.size, 1, none⟩) hsG).trans g1
        have hsz : w'.heap.size ≤ wr.heap.size := hb2.size
        have hsG2 : w.heap.size < wr.heap.size := by omega
        clear hL
        by_cases hlt : k < es.length
        · have hlti : (k : Int) < (es.length : Int) := by omega
          have hk0 : (0 : Int) ≤ (k : Int) := by omega
          have hek : es[k]? = some es[k] := List.getElem?_eq_getElem hlt
          obtain ⟨b, o, hao, c0, c1⟩ := (HE.out.later (HBW.out.trans (hb2.mono hs0))) k es[k] hek
          cases hao
          have hbl := block_lt_of_cell c0
          dsimp only at hbl
          have hp := HIN.out k es[k] hek
          have hbt := Pa.body_take (n, (es.length : Int)) es k hlt
          obtain ⟨p, hpk⟩ : ∃ p, p = es[k] := ⟨_, rfl⟩
          rw [← hpk] at c0 c1 hp hbt
          have HBT := Nu.hid hbt
          clear hbt hpk hek hb2 t1 t2 t3 hla hlb
          obtain ⟨u, v⟩ := p
          dsimp only at c0 c1 hp
          have hla := itoa_len (x := u) (by omega)
          have hlb := itoa_len (x := v) (by omega)
          have t0 : ¬ (9223372036854775807 < L.length + (Lib.itoa u).length) := by omega
          have t1 : ¬ (9223372036854775807 < L.length + (Lib.itoa u).length + 1) := by omega
          have t2 : ¬ (9223372036854775807 < L.length + (Lib.itoa u).length + 1 + (Lib.itoa v).length) := by omega
          have t3 : ¬ (9223372036854775807 < L.length + (Lib.itoa u).length + 1 + (Lib.itoa v).length + 1) := by omega
          have hbr2 : Below wr.heap.size wr wr.drew := (Below.refl _ _).drew
          have hS2 : ∀ W, Below wr.heap.size wr W → (W.cell? ⟨b, o + k * 2, none⟩ = some (.int .i64 u) ∧ W.cell? ⟨b, o + k * 2 + 1, none⟩ = some (.int .i64 v) ∧ W.cell? ⟨w.heap.size, 1, none⟩ = some (.slice (some ⟨b, o, none⟩) es.length cap) ∧ Below wr.heap.size wr W) := fun W h => ⟨(h.cell (p := ⟨b, o + k * 2, none⟩) hbl).trans c0, (h.cell (p := ⟨b, o + k * 2 + 1, none⟩) hbl).trans c1, (h.cell (p := ⟨w.heap.size, 1, none⟩) hsG2).trans k1, h⟩
          have HS2 := Nu.hid hS2
          have hit2 : ∀ (x : Int) (W : World), -9223372036854775808 ≤ x → x ≤ 9223372036854775807 → Below wr.heap.size wr W → Calls Tryd.prog 29 #[.int .i64 x] W fun e W2 => e = .returned (.string ⟨(Lib.itoa x).toArray⟩) ∧ Below wr.heap.size wr W2 := fun x W h0 h1 hb => by
            refine (HIT.out x W h0 h1 (HB3.out.trans (hb.mono hsz))).mono ?_
            rintro e W2 ⟨rfl, hbs, _⟩
            exact ⟨rfl, hb.trans (hbs.mono hb.size)⟩
          have HIT2 := Nu.hid hit2
          clear hit2 hS2
          go_wp2_with fail
          go_region_held3 (fun W => W.cell? ⟨b, o + k * 2, none⟩ = some (.int .i64 u) ∧ W.cell? ⟨b, o + k * 2 + 1, none⟩ = some (.int .i64 v) ∧ W.cell? ⟨w.heap.size, 1, none⟩ = some (.slice (some ⟨b, o, none⟩) es.length cap) ∧ Below wr.heap.size wr W)
            (exact HS2.out _ (by first | assumption | exact hbr2))
            ((go_at_call 29; refine (HIT2.out _ _ (by omega) (by omega) (by first | assumption | exact hbr2)).mono ?_; rintro e W3 ⟨rfl, hbz⟩))
          all_goals
            have HB4 := Nu.hid (HB3.out.trans (hbz.mono hsz))
            clear hbz
            go_wp2
            go_roundw
            case rel =>
              refine ⟨k + 1, L ++ (Pa.row (u, v) ++ [10]), by omega, by go_num, by rw [HBT.out, HL.out], ?_, HB4.out⟩
              rw [str3]
              simp [Pa.row]
            case measure => simp [intOf]; omega
        · have hd : ¬ ((k : Int) < (es.length : Int)) := by omega
          have hLe : L = Pa.body ((n, (es.length : Int)) :: es) := by rw [HL.out, List.take_of_length_le (by omega)]
          have HLE := Nu.hid hLe
          have HB4 := Nu.hid (HBW.out.trans (hb2.mono hs0))
          clear hLe hb2
          by_cases hbg : 16777216 < (L.length : Int)
          · go_wp2
            go_ret2
            refine ⟨?_, HB4.out⟩
            rw [HTX.out, if_neg (by omega), ← HLE.out, if_pos (by omega)]
            rfl
          · go_wp2
            go_ret2
            refine ⟨?_, HB4.out⟩
            rw [HTX.out, if_neg (by omega), ← HLE.out, if_neg (by omega)]
            rfl

end Go.Proofs.YtmgjfakdjponoabDoor
