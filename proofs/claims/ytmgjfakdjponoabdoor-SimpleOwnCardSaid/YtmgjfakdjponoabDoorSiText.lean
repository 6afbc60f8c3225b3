/-
  A graph's text, as the program writes it.
-/
import Derived.Test.YtmgjfakdjponoabDoorSiValid
import Derived.Test.YtmgjfakdjponoabDoorSiBytes
namespace Go.Proofs.YtmgjfakdjponoabDoor
open Go.RowKit Go.Sort

/-- The text of a graph, and the error's number. -/
noncomputable def Si.text (n : Int) (es : List (Int × Int)) : List UInt8 × Int :=
  if Si.valid n es = true then
    (if 2097152 < es.length then ([], 141) else if 16777216 < (Pa.body ((n, (es.length : Int)) :: es)).length then ([], 141) else (Pa.body ((n, (es.length : Int)) :: es), 0))
  else ([], 1)

def textVal (x : List UInt8 × Int) : Value := .tuple #[.string ⟨x.1.toArray⟩, .int .i64 x.2]

set_option maxRecDepth 100000 in
set_option maxHeartbeats 4000000 in
theorem text_any (n : Int) (ao : Option Addr) (cap : Nat) (es : List (Int × Int)) (w : World) (he : EdgesAt w ao es) (hl : es.length ≤ 4611686018427387904) (ht : Tab w) :
    Calls Tryd.prog 8 #[graphVal n ao es.length cap] w fun e w' => e = .returned (textVal (Si.text n es)) ∧ Below w.heap.size w w' := by
  have HE := Nu.hid he
  have HTAB := Nu.hid ht
  have hva := fun W (hb : Below w.heap.size w W) => valid_any n ao cap es W (he.later hb) hl
  unfold graphVal at hva ⊢
  have HVA := Nu.hid hva
  clear he hva ht
  have hbw0 : Below w.heap.size w (w.alloc (.cells #[.int .i64 n, .slice ao es.length cap] 24)) := (Below.refl _ _).alloc (Nat.le_refl _) _
  have HBW0 := Nu.hid hbw0
  clear hbw0
  cases hv : Si.valid n es with
  | false =>
    rw [hv] at HVA
    have ht : Si.text n es = ([], 1) := by unfold Si.text; rw [if_neg (by rw [hv]; simp)]
    rw [ht]
    unfold textVal
    go_enter Tryd.func8, Tryd.ntmps8
    go_wp2_with (go_at_call 6; refine (HVA.out _ HBW0.out).mono ?_; rintro e w' ⟨rfl, hb⟩; refine Hid.out ?_)
    refine Nu.hid ?_
    go_wp2
    go_ret2
    exact ⟨rfl, HBW0.out.trans (hb.mono HBW0.out.size)⟩
  | true =>
    rw [hv] at HVA
    have hval := Si.valid_iff.1 hv
    have hfew := hval.few
    have hlo := hval.lo
    have hhi := hval.hi
    have HVAL := Nu.hid hval
    clear hval
    have HTX := Nu.hid (show Si.text n es = _ from by unfold Si.text; rw [if_pos hv])
    go_enter Tryd.func8, Tryd.ntmps8
    go_wp2_with (go_at_call 6; refine (HVA.out _ HBW0.out).mono ?_; rintro e w' ⟨rfl, hb⟩; refine Hid.out ?_)
    refine Nu.hid ?_
    have hbw : Below w.heap.size w w' := HBW0.out.trans (hb.mono HBW0.out.size)
    have hG : w'.heap[w.heap.size]? = some (.cells #[.int .i64 n, .slice ao es.length cap] 24 (0, 0)) := (hb.block _ (by simp)).trans (heap_alloc_new w _)
    obtain ⟨g0, g1, -⟩ := pair_cells hG
    have hsG := lt_of_block hG
    have HBW := Nu.hid hbw
    clear hb hbw
    by_cases hbig : 2097152 < (es.length : Int)
    · go_wp2
      go_ret2
      refine ⟨?_, HBW.out⟩
      rw [HTX.out, if_pos (by omega)]
      rfl
    · have hbw1 : Below w.heap.size w (w'.alloc (.cells #[.int .i64 n, .int .i64 es.length] 3)) := HBW.out.alloc HBW.out.size _
      have HBW1 := Nu.hid hbw1
      clear hbw1
      go_wp2_with (go_at_call 22; refine (numline_any _ 2 2 (Pa.two n es.length) _ (ints_two w' _ rfl n es.length (by omega) (by omega)) (by decide) (HTAB.out.below HBW1.out)).mono ?_; rw [Pa.lineTo_two]; rintro e w3 ⟨rfl, hb3⟩; refine Hid.out ?_)
      refine Nu.hid ?_
      have h13 : Below w'.heap.size w' w3 := ((Below.refl _ _).alloc (Nat.le_refl _) _).trans (hb3.mono (by simp))
      have HB3 := Nu.hid (HBW.out.trans (h13.mono HBW.out.size))
      have hbs3 : w.heap.size ≤ w3.heap.size := HB3.out.size
      have hG3 := (h13.block _ hsG).trans hG
      obtain ⟨k0, k1, -⟩ := pair_cells hG3
      have hsG3 := lt_of_block hG3
      have HE3 := Nu.hid (HE.out.later HB3.out)
      obtain ⟨L0, hL0⟩ : ∃ L0, L0 = Pa.row (n, (es.length : Int)) ++ [10] := ⟨_, rfl⟩
      have hL0l : L0.length ≤ 100 := by
        have h1 := Lib.itoa_length_le n (by omega) (by omega)
        have h2 := Lib.itoa_length_le (es.length : Int) (by omega) (by omega)
        rw [hL0]
        simp [Pa.row]
        omega
      rw [← hL0]
      have hbody : Pa.body ((n, (es.length : Int)) :: es.take 0) = L0 := by rw [hL0]; simp [Pa.body]
      have HBODY := Nu.hid hbody
      have HL0 := Nu.hid hL0
      have kb := Lib.run_convert_string_bytes (P := Tryd.prog) w3 9 44 5 ⟨L0.toArray⟩ Tryd.underlying9 Tryd.underlying44 Tryd.underlying5
      have hsz : (⟨L0.toArray⟩ : ByteArray).size = L0.length := by simp [ByteArray.size]
      rw [hsz] at kb
      clear hsz hb3 h13 hbody hL0 g0 g1 hG
      obtain ⟨ob, hbb⟩ := ownB_new w3 L0 (by omega)
      have HOB := Nu.hid ob
      have HBB := Nu.hid hbb
      have l0 := (hbb.cell (p := ⟨w.heap.size, 0, none⟩) hsG3).trans k0
      have l1 := (hbb.cell (p := ⟨w.heap.size, 1, none⟩) hsG3).trans k1
      clear ob hbb
      have HIN : Hid (∀ (j : Nat) (p : Int × Int), es[j]? = some p → (0 ≤ p.1 ∧ p.1 ≤ 1048576) ∧ 0 ≤ p.2 ∧ p.2 ≤ 1048576) := fun j p hj => by
        have := HVAL.out.each j p hj
        unfold Si.ok at this
        omega
      go_wp2
      generalize hX : Lib.bytesWorld w3 5 ⟨L0.toArray⟩ = X
      rw [hX] at HOB HBB
      generalize Value.slice (some ⟨w3.heap.size, 0, none⟩) L0.length (grownCap w3 L0.length 0 5) = vb0 at HOB ⊢
      clear hX kb l0 l1
      go_loopw [4, 25] (fun vb c wr2 => ∃ (k : Nat) (L : List UInt8), k ≤ es.length ∧ c = .int .i64 k ∧ L = Pa.body ((n, (es.length : Int)) :: es.take k) ∧ OwnB wr2 w3.heap.size vb L ∧ Below w3.heap.size w3 wr2) (fun _ c _ => es.length - (intOf c).toNat)
      case atStart => exact ⟨0, L0, Nat.zero_le _, rfl, HBODY.out.symm, HOB.out, HBB.out⟩
      case round =>
        obtain ⟨k, L, hk, rfl, hL, hob, hb2⟩ := hrel
        have hbs2 := hb2.size
        have hLb : L.length ≤ L0.length + 16 * k := by
          rw [hL, HL0.out]
          have := Pa.body_bound (hd := (n, (es.length : Int))) (fit := es.take k) (fun p hp => by
            obtain ⟨j, hj, e⟩ := List.mem_iff_getElem.1 hp
            rw [List.getElem_take] at e
            exact HIN.out j p (by rw [← e]; exact List.getElem?_eq_getElem _))
          rw [List.length_take] at this
          omega
        have HL := Nu.hid hL
        have HOB2 := Nu.hid hob
        have HB2 := Nu.hid hb2
        by_cases hlt : k < es.length
        · have hlti : (k : Int) < (es.length : Int) := by omega
          have hk0 : (0 : Int) ≤ (k : Int) := by omega
          have hek : es[k]? = some es[k] := List.getElem?_eq_getElem hlt
          obtain ⟨b, o, rfl, a0, a1⟩ := (HE3.out.later hb2) k es[k] hek
          have hP : b < wr.heap.size := block_lt_of_cell a0
          have hp := HIN.out k es[k] hek
          have hbt := Pa.body_take (n, (es.length : Int)) es k hlt
          have hSb : (Pa.row es[k] ++ [10]).length ≤ 16 := Pa.row_small hp
          obtain ⟨p, hpk⟩ : ∃ p, p = es[k] := ⟨_, rfl⟩
          rw [← hpk] at a0 a1 hp hbt hSb
          obtain ⟨S, hS⟩ : ∃ S, S = Pa.row p ++ [10] := ⟨_, rfl⟩
          rw [← hS] at hbt hSb
          have HBT := Nu.hid hbt
          have HS := Nu.hid hS
          have htab2 := HTAB.out.below (HB3.out.trans (hb2.mono hbs3))
          have HTAB2 := Nu.hid htab2
          clear hbt hS hL hob hb2 hpk hek htab2
          obtain ⟨u, v⟩ := p
          dsimp only at a0 a1 hp
          go_wp2_with (go_at_call 22; refine (numline_any _ 2 2 (Pa.two u v) _ (ints_two _ _ (by simp) u v (by omega) (by omega)) (by decide) (HTAB2.out.below (((Below.refl _ _).alloc (Nat.le_refl _) _).alloc (by simp) _))).mono ?_; rw [Pa.lineTo_two, ← HS.out]; rintro e w5 ⟨rfl, hb5⟩; have h25 : Below wr.heap.size wr w5 := (((Below.refl _ _).alloc (Nat.le_refl _) _).alloc (by simp) _).trans (hb5.mono (by simp; omega)); have hs5 : wr.heap.size ≤ w5.heap.size := h25.size; have OB5 := Nu.hid (HOB2.out.below h25 (Nat.le_refl _)); have H25 := Nu.hid h25; clear hb5 h25; refine Hid.out ?_)
          refine Nu.hid ?_
          have hls : L.length + S.length ≤ 140737488355328 := by omega
          have hb5 : w3.heap.size ≤ w5.heap.size := by omega
          go_wp2_with (at_builtin; refine wpList_append_B rfl _ _ rfl w5 w3.heap.size u4 L S rfl rfl OB5.out hls hb5 ?_; refine Hid.out ?_)
          refine Nu.hid ?_
          intro vb' w6 hob6 hg6
          have HOB6 := Nu.hid hob6
          have HB6 := Nu.hid ((HB2.out.trans (H25.out.mono hbs2)).grown hg6 (by omega) (fun q hq => by
            obtain ⟨g, cap, e, _, hB, _⟩ := OB5.out.cells
            rw [e] at hq
            simp [Value.ownBlock] at hq
            omega))
          clear hob6 hg6
          go_wp2
          go_roundw
          case rel => exact ⟨k + 1, L ++ S, by omega, by go_num, by rw [HBT.out, HL.out], HOB6.out, HB6.out⟩
          case measure => simp [intOf]; omega
        · have hkf : k = es.length := by omega
          subst hkf
          rw [List.take_length] at hL
          have HL' := Nu.hid hL
          obtain ⟨gb, cb, rfl, hlc, hgB, hgl, hcells⟩ := hob.cells
          have hcv := run_convert_bytes_back (P := Tryd.prog) wr 44 9 5 ⟨gb, 0, none⟩ cb L Tryd.underlying44 Tryd.underlying5 Tryd.underlying9 (fun j hj => by rw [addr0]; exact hcells j hj)
          clear hL hob hb2 hcells
          by_cases hbg : 16777216 < (L.length : Int)
          · clear hcv
            go_wp2
            go_ret2
            refine ⟨?_, HB3.out.trans (HB2.out.mono hbs3)⟩
            rw [HTX.out, if_neg (by omega), ← HL'.out, if_pos (by omega)]
            rfl
          · go_wp2
            go_ret2
            refine ⟨?_, HB3.out.trans (HB2.out.mono hbs3)⟩
            rw [HTX.out, if_neg (by omega), ← HL'.out, if_neg (by omega)]
            rfl

end Go.Proofs.YtmgjfakdjponoabDoor
