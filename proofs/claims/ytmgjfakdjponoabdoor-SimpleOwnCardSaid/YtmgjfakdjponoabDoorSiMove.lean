/-
  A set of edges moved into a list.
-/
import Derived.Test.YtmgjfakdjponoabDoorSiGather
namespace Go.Proofs.YtmgjfakdjponoabDoor
open Go.RowKit Go.Sort Go.Maps

def TakePost (l0 ps : List (Int × Int)) (B : Nat) (w0 : World) (e : Ending) (w' : World) : Prop :=
  ∃ (g cap : Nat) (acc : List (Int × Int)), e = .returned (.slice (some ⟨g, 0, none⟩) acc.length cap) ∧ Si.Taken l0 ps ps.length acc ∧ acc.length ≤ l0.length ∧ OwnE w' B (.slice (some ⟨g, 0, none⟩) acc.length cap) acc ∧ Below w0.heap.size w0 w'

set_option maxRecDepth 100000 in
set_option maxHeartbeats 4000000 in
theorem take_any (mb nb : Nat) (D : DataW Unit) (l0 : List (Int × Int)) (ao : Option Addr) (cap : Nat) (ps : List (Int × Int)) (w0 w : World) (he : EdgesAt w0 ao ps) (hb0 : Below w0.heap.size w0 w) (hmb : w0.heap.size ≤ mb) (hl : ps.length ≤ 140737488355328)
    (hin : ∀ (j : Nat) (p : Int × Int), ps[j]? = some p → In64 p) (hown : w.ownsMap Tryd.prog 52 unitElem mb nb D) (hset : SetIs D (fun e => e ∈ l0) l0.length) (hl0 : l0.length ≤ 4194304) :
    Calls Tryd.prog 25 #[.map (some mb), .slice ao ps.length cap] w (TakePost l0 ps w.heap.size w0) := by
  obtain ⟨i0, hi, hz0, hz1, hz2⟩ := info_parts Tryd.infoEdge
  have HE := Nu.hid he
  have HIN := Nu.hid hin
  have HB0 := Nu.hid hb0
  have HOWN0 := Nu.hid hown
  have HSET0 := Nu.hid hset
  have hmlt := hown.lt
  have hw0 : w0.heap.size ≤ w.heap.size := hb0.size
  have hD : (Maps.size D : Int) = (l0.length : Int) := by rw [hset.size]
  clear he hin hb0 hown hset
  unfold TakePost
  go_enter Tryd.func25, Tryd.ntmps25
  go_wp2_with (first
    | (at_len; refine wpList_len_own _ rfl _ _ rfl 52 81 Tryd.underlying60 (unitElem (H := Unit)) mb nb D rfl HOWN0.out ?_)
    | (at_make; refine wpList_make_own _ rfl _ _ 22 rfl w.heap.size 52 i0 (.agg #[.int .i64 0, .int .i64 0]) 2 Tryd.underlying22 hi hz0 hz1 _ _ _ l0.length rfl rfl hD (by rw [hz2]; omega) (by unfold maxLen; omega) (Nat.le_refl _) ?_; refine Hid.out ?_))
  refine Nu.hid ?_
  intro w1 hrow1 hg1
  have HROW1 : Hid (OwnE w1 w.heap.size (.slice (some ⟨w.heap.size, 0, none⟩) 0 l0.length) []) := hrow1
  have hb1 : Below w.heap.size w w1 := (Below.refl _ _).grown hg1 (Nat.le_refl _) (fun j hj => by cases hj)
  have HB1 := Nu.hid (HB0.out.trans (hb1.mono hw0))
  have HOWN1 := Nu.hid (ownsMap_below HOWN0.out hb1)
  have hsw : w.heap.size ≤ w1.heap.size := hb1.size
  clear hrow1 hg1 hb1 hD
  go_wp2
  go_loopw [5, 16] (fun v c wr => ∃ (k n : Nat) (acc : List (Int × Int)) (D : DataW Unit), k ≤ ps.length ∧ c = .int .i64 k ∧ Si.Taken l0 ps k acc ∧ n + acc.length = l0.length ∧ SetIs D (fun e => e ∈ l0 ∧ e ∉ acc) n ∧ wr.ownsMap Tryd.prog 52 unitElem mb nb D ∧ OwnE wr w.heap.size v acc ∧ v ≠ .slice none 0 0 ∧ Below w0.heap.size w0 wr ∧ w.heap.size ≤ wr.heap.size) (fun _ c _ => ps.length - (intOf c).toNat)
  case atStart => exact ⟨0, l0.length, [], D, Nat.zero_le _, rfl, Si.Taken.start _ _, by simp, HSET0.out.congr fun e _ => by simp, HOWN1.out, HROW1.out, by simp, HB1.out, hsw⟩
  case round =>
    obtain ⟨k, n, acc, D, hk, rfl, htk, hna, hset, hown, hrow, hnn, hb, hsz⟩ := hrel
    have HROW := Nu.hid hrow
    have HTK := Nu.hid htk
    have HSET := Nu.hid hset
    have HOWN := Nu.hid hown
    have HB := Nu.hid hb
    by_cases hlt : k < ps.length
    · have hlti : (k : Int) < (ps.length : Int) := by omega
      have hk0 : (0 : Int) ≤ (k : Int) := by omega
      obtain ⟨p, hp⟩ : ∃ p, ps[k]? = some p := ⟨_, List.getElem?_eq_getElem hlt⟩
      obtain ⟨b, o, rfl, c0, c1⟩ := (HE.out.later hb) k p hp
      have hbl : b < wr.heap.size := block_lt_of_cell c0
      have hn64 := (HIN.out k p hp).norm
      have hky := keyOf_edge hn64
      have hse := fun W => sedge_any p W
      unfold edgeVal at hky hse
      have HKY := Nu.hid hky
      have HSE := Nu.hid hse
      have HP := Nu.hid hp
      have hhas := hset.has _ hn64
      have HNN := Nu.hid hnn
      clear hrow htk hset hown hb hp hky hse hnn
      generalize hq : Si.norm p = q at HKY HSE hn64 hhas
      have HQ := Nu.hid hq
      clear hq
      go_wp2_with (go_at_call 39; refine (HSE.out _).mono ?_; rintro e w2 ⟨rfl, hgr⟩; refine Hid.out ?_)
      refine Nu.hid ?_
      have hb2 : Below wr.heap.size wr w2 := by
        obtain ⟨qn, os', rfl⟩ := hgr
        exact ((Below.refl _ _).alloc (Nat.le_refl _) _).trans ((grow_below _ qn os').mono (by simp))
      have hs2 : wr.heap.size ≤ w2.heap.size := hb2.size
      have HOWN2 := Nu.hid (ownsMap_below HOWN.out hb2)
      have HROW2 := Nu.hid (HROW.out.below hb2 (Nat.le_refl _))
      have HB2 := Nu.hid (HB.out.trans (hb2.mono HB.out.size))
      have hs02 : w0.heap.size ≤ w2.heap.size := HB2.out.size
      clear hb2 hgr c0 c1
      cases hh : Maps.has D (keyE q) with
      | false =>
        have hno : ¬ (q ∈ l0 ∧ q ∉ acc) := fun h => by rw [hhas.2 h] at hh; cases hh
        go_wp2_with (at_lookup; refine wpList_lookup_own_unit _ rfl _ _ 60 rfl 52 81 lawEdge Tryd.underlying60 (zeroUnit _) mb nb D rfl (World.ownsMap.alloc HOWN2.out _) _ _ rfl HKY.out ?_)
        go_roundw
        case rel => exact ⟨k + 1, n, acc, D, by omega, by go_num, HTK.out.old HP.out (by rw [HQ.out]; exact hno), hna, HSET.out, World.ownsMap.alloc (World.ownsMap.alloc HOWN2.out _) _, (HROW2.out.alloc _).alloc _, HNN.out, (HB2.out.alloc hs02 _).alloc (by simp; omega) _, by simp; omega⟩
        case measure => simp [intOf]; omega
      | true =>
        have hyes := hhas.1 hh
        obtain ⟨m, hnm, hsd⟩ := HSET.out.del hn64 hyes
        have HSD := Nu.hid hsd
        clear hsd hhas
        go_wp2_with (first
          | (at_lookup; refine wpList_lookup_own_unit _ rfl _ _ 60 rfl 52 81 lawEdge Tryd.underlying60 (zeroUnit _) mb nb D rfl (World.ownsMap.alloc HOWN2.out _) _ _ rfl HKY.out ?_)
          | (at_delete; refine wpList_delete_own _ rfl _ _ 60 52 rfl 81 lawEdge Tryd.underlying60 (unitElem (H := Unit)) mb nb D rfl (World.ownsMap.alloc (World.ownsMap.alloc HOWN2.out _) _) _ _ rfl HKY.out ?_; refine Hid.out ?_))
        refine Nu.hid ?_
        intro w3 hown3 hturn
        have hg3 := hturn.grown
        have hne : w2.heap.size ≠ mb := by omega
        have hE3 : w3.heap[w2.heap.size]? = some (.cells #[.int .i64 q.1, .int .i64 q.2] 52 (0, 0)) := by
          rw [hg3.block _ (by simp; omega) (by simpa using hne), Below.heap_alloc _ _ _ (by simp)]
          exact heap_alloc_new w2 _
        obtain ⟨e0, e1, -⟩ := pair_cells hE3
        have hs3 : w2.heap.size + 2 ≤ w3.heap.size := by have := hg3.size; simpa using this
        have HROW3 : Hid (OwnE w3 w.heap.size _ acc) := World.ownsRow.kept ((HROW2.out.alloc _).alloc _) hg3 (.inr (HROW2.out.far hmlt))
        have HB3 := Nu.hid (((HB2.out.alloc hs02 _).alloc (by simp; omega) _).grown hg3 (by simp; omega) (fun j hj => by cases hj; exact hmb))
        have HOWN3 := Nu.hid hown3
        clear hown3 hturn hg3 hE3
        have hla : acc.length ≤ l0.length := by omega
        go_wp2_with (at_builtin; refine wpList_append_own _ rfl _ _ 22 rfl w.heap.size 52 i0 (.agg #[.int .i64 0, .int .i64 0]) 2 16 Tryd.underlying22 hi hz0 hz1 hz2 rfl (by decide) _ _ _ rfl (World.ownsRow.alloc HROW3.out _) ⟨w3.heap.size, 0, none⟩ 1 1 [.int .i64 q.1, .int .i64 q.2] rfl rfl (new_two_e _ _ rfl _ _ _) (by simp [Value.oneCell']) (by unfold maxLen; omega) (by omega) (by simp; omega) ?_; refine Hid.out ?_)
        refine Nu.hid ?_
        intro v' w4 hrow4 hg4 hnil
        have HROW4 : Hid (OwnE w4 w.heap.size v' (acc ++ [q])) := by
          unfold OwnE
          rw [flatE_snoc, List.length_append]
          exact hrow4
        have hs4 : w3.heap.size + 1 ≤ w4.heap.size := by have := hg4.size; simpa using this
        have HB4 := Nu.hid ((HB3.out.alloc HB3.out.size _).grown hg4 (by have := HB3.out.size; simp; omega) (fun j hj => by have := (World.ownsRow.lt HROW3.out j hj).1; omega))
        have HOWN4 := Nu.hid ((World.ownsMap.alloc HOWN3.out _).kept hg4 (fun h => HROW3.out.far hmlt h.symm))
        have HNIL : Hid (v' ≠ .slice none 0 0) := hnil
        clear hrow4 hg4 hnil e0 e1
        go_wp2
        go_roundw
        case rel => exact ⟨k + 1, m, acc ++ [q], _, by omega, by go_num, by have := HTK.out.new HP.out (by rw [HQ.out]; exact hyes.1) (by rw [HQ.out]; exact hyes.2); rwa [HQ.out] at this, by simp; omega, HSD.out.congr (fun e _ => by simp [and_assoc]), HOWN4.out, HROW4.out, HNIL.out, HB4.out, by omega⟩
        case measure => simp [intOf]; omega
    · obtain rfl : k = ps.length := by omega
      obtain ⟨g, cp, rfl⟩ := HROW.out.some hnn
      clear hrow htk hset hown hb
      go_wp2
      go_ret
      exact ⟨g, cp, acc, rfl, HTK.out, by omega, HROW.out, HB.out⟩

end Go.Proofs.YtmgjfakdjponoabDoor
