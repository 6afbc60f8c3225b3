/-
  The document's own Named.
-/
import Derived.Test.YtdkckdbpbdhoaaaEdR2
import Derived.Test.YtdkckdbpbdhoaaaMgB
namespace Go.Proofs.Ytdkckdbpbdhoaaa
open Go.RowKit Go.Sort

set_option maxRecDepth 100000 in
set_option maxHeartbeats 8000000 in
theorem rnamed_any (n : Int) (no : Option Addr) (nc q : Nat) (ns : List Int) (ao : Option Addr) (cap : Nat) (es : List (Int × Int)) (w : World) (he : EdgesAt w ao es) (hl : es.length ≤ 4194304) (hq : ns.length = q) (hn : IntsAt w no ns)
    (hf : Ed.Fits ns es) (hin : Ed.Inj ns) (hnd : es.Nodup) :
    Calls Try.prog 47 #[.agg #[.int .i64 n, .slice ao es.length cap], .slice no q nc] w fun e w' => ∃ v, e = .returned v ∧ OwnE w' w.heap.size v (Ed.named ns es) ∧ Below w.heap.size w w' := by
  have HE := Nu.hid he
  have HN := Nu.hid hn
  have HQ := Nu.hid hq
  have HF := Nu.hid hf
  have HI := Nu.hid hin
  have HND := Nu.hid hnd
  have HG0 : Hid ((w.alloc (.cells #[.int .i64 n, .slice ao es.length cap] 24)).heap[w.heap.size]? = some (.cells #[.int .i64 n, .slice ao es.length cap] 24 (0, 0))) := heap_alloc_new w _
  have HB0 : Hid (Below w.heap.size w (w.alloc (.cells #[.int .i64 n, .slice ao es.length cap] 24))) := (Below.refl _ _).alloc (Nat.le_refl _) _
  clear he hn hq hf hin hnd
  go_enter Try.func47, Try.ntmps47
  go_wp2
  go_loopw [5, 6] (fun v c wr => ∃ (k : Nat) (L : List (Int × Int)), k ≤ es.length ∧ c = .int .i64 k ∧ L = Ed.named ns (es.take k) ∧ OwnE wr (w.heap.size + 1) v L ∧ wr.heap[w.heap.size]? = some (.cells #[.int .i64 n, .slice ao es.length cap] 24 (0, 0)) ∧ Below w.heap.size w wr) (fun _ c _ => es.length - (intOf c).toNat)
  case atStart => exact ⟨0, [], Nat.zero_le _, rfl, by simp [Ed.named, Ed.pr, Si.made], OwnE.nil _ _, HG0.out, HB0.out⟩
  case round =>
    obtain ⟨k, L, hk, rfl, hL, hrow, hg, hb⟩ := hrel
    have HROW := Nu.hid hrow
    have HB := Nu.hid hb
    have HL := Nu.hid hL
    have HG := Nu.hid hg
    have hsg := lt_of_block hg
    have hsg1 : w.heap.size + 1 ≤ wr.heap.size := hsg
    obtain ⟨g0, g1, -⟩ := pair_cells hg
    have hLl : L.length ≤ es.length := by
      rw [hL, Ed.named_length HI.out (Ed.fits_take HF.out k) (List.Nodup.sublist (List.take_sublist _ _) HND.out)]
      refine Nat.le_trans (Ed.pr_length _ _) ?_
      rw [List.length_take]
      omega
    have hLs : L.Pairwise Si.lt := by rw [hL]; exact Ed.named_sorted _ _
    have HLS := Nu.hid hLs
    by_cases hlt : k < es.length
    · have hlti : (k : Int) < (es.length : Int) := by omega
      have hk0 : (0 : Int) ≤ (k : Int) := by omega
      obtain ⟨p, hp⟩ : ∃ p, es[k]? = some p := ⟨_, List.getElem?_eq_getElem hlt⟩
      obtain ⟨b, o, rfl, c0, c1⟩ := (HE.out.later hb) k p hp
      have hbl : b < wr.heap.size := block_lt_of_cell c0
      obtain ⟨u, v, rfl, huv, hvl, hu, hv⟩ := HF.out.at (List.mem_of_getElem? hp)
      dsimp only at c0 c1 hu hv
      have HSN := Nu.hid (Ed.named_snoc (ns := ns) hp HI.out HF.out)
      have HSK := Nu.hid (Ed.named_skip (ns := ns) hp)
      have HNW := Nu.hid (Ed.named_new (ns := ns) hp HI.out HF.out HND.out)
      dsimp only at HSN HSK HNW
      generalize hx : Ed.nth ns (u : Int) = x at hu hv HSN HSK HNW
      generalize hy : Ed.nth ns (v : Int) = y at hu hv HSN HSK HNW
      obtain ⟨b', o', rfl, d0⟩ := (HN.out.later hb) u x hu
      obtain ⟨b'', o'', eb, d1⟩ := (HN.out.later hb) v y hv
      cases eb
      have hbl' : b' < wr.heap.size := block_lt_of_cell d0
      have hu0 : (0 : Int) ≤ (u : Int) := by omega
      have hv0 : (0 : Int) ≤ (v : Int) := by omega
      have huq : (u : Int) < (q : Int) := by have := HQ.out; omega
      have hvq : (v : Int) < (q : Int) := by have := HQ.out; omega
      clear hrow hb hL hg hp hu hv hx hy huv hvl hLs
      go_wp2
      go_quiet (fail)
      have HG2 : Hid ((wr.drewN nq).heap[w.heap.size]? = some (.cells #[.int .i64 n, .slice (some ⟨b, o, none⟩) es.length cap] 24 (0, 0))) := HG.out
      have HB2 := Nu.hid (below_drewN HB.out nq)
      have HROW2 : Hid (OwnE (wr.drewN nq) (w.heap.size + 1) u5 L) := HROW.out
      have hs2 : w.heap.size + 1 ≤ (wr.drewN nq).heap.size := hsg1
      clear c0 c1 d0 d1 g0 g1
      generalize wr.drewN nq = w2 at HG2 HB2 HROW2 hs2 ⊢
      by_cases hx0 : 0 ≤ x
      · by_cases hy0 : 0 ≤ y
        · have HPT := Nu.hid (rput_any (w.heap.size + 1) u5 L x y w2 HROW2.out hs2 (by omega) HLS.out (by rw [HL.out]; exact HNW.out ⟨hx0, hy0⟩))
          have HSNE : Hid (Ed.named ns (es.take (k + 1)) = Si.put L (Si.norm (x, y))) := by rw [HL.out]; exact HSN.out ⟨hx0, hy0⟩
          go_wp2_with (go_at_call 42; refine HPT.out.mono ?_; rintro e w3 ⟨v', rfl, hown, hb3⟩; refine Hid.out ?_)
          refine Nu.hid ?_
          have HROW3 := Nu.hid hown
          have HG3 := Nu.hid ((hb3.block _ (by omega)).trans HG2.out)
          have HB3 := Nu.hid (HB2.out.trans (hb3.mono (by omega)))
          clear hown hb3
          go_wp2
          go_roundw
          case rel => exact ⟨k + 1, _, by omega, by go_num, HSNE.out.symm, HROW3.out, HG3.out, HB3.out⟩
          case measure => simp [intOf]; omega
        · go_wp2
          go_roundw
          case rel => exact ⟨k + 1, L, by omega, by go_num, by rw [HSK.out (fun h => hy0 h.2), HL.out], HROW2.out, HG2.out, HB2.out⟩
          case measure => simp [intOf]; omega
      · go_wp2
        go_roundw
        case rel => exact ⟨k + 1, L, by omega, by go_num, by rw [HSK.out (fun h => hx0 h.1), HL.out], HROW2.out, HG2.out, HB2.out⟩
        case measure => simp [intOf]; omega
    · have hd : ¬ ((k : Int) < (es.length : Int)) := by omega
      have HLE : Hid (L = Ed.named ns es) := by rw [hL, List.take_of_length_le (by omega)]; exact rfl
      clear hrow hb hL hg hLs
      go_wp2
      go_ret
      exact ⟨_, rfl, by rw [← HLE.out]; exact HROW.out.lower (by omega), HB.out⟩

end Go.Proofs.Ytdkckdbpbdhoaaa
