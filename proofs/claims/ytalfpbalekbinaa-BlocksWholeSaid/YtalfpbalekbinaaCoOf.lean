/-
  Of.
-/
import Derived.Test.YtalfpbalekbinaaCoNum
import Derived.Test.YtalfpbalekbinaaCoJoin2
import Derived.Test.YtalfpbalekbinaaMg02
import Derived.Test.YtalfpbalekbinaaMg04
namespace Go.Proofs.Ytalfpbalekbinaa
open Go.RowKit Go.Sort

/-- The sets that the edges make. -/
def Co.ofG (n : Nat) (es : List (Int × Int)) : Nat → Nat := Co.joins n es (fun x => x)

theorem Co.ofG_gen (n : Nat) (es : List (Int × Int)) : Co.Gen n es (Co.ofG n es) := Co.gen_joins n es

def OfPost (n : Int) (es : List (Int × Int)) (w : World) (e : Ending) (w' : World) : Prop :=
  ((∃ (m : Nat) (v : Value), n = (m : Int) ∧ Si.Val n es ∧ e = .returned (.tuple #[v, .int .i64 (Co.cnt m (Co.ofG m es) : Int), .int .i64 0]) ∧ OwnZ w' w.heap.size v (Co.ints m (Co.num (Co.ofG m es)))) ∨ (Si.valid n es = false ∧ e = .returned (.tuple #[.slice none 0 0, .int .i64 0, .int .i64 1]))) ∧ Below w.heap.size w w'

set_option maxRecDepth 100000 in
set_option maxHeartbeats 8000000 in
theorem of_any (n : Int) (ao : Option Addr) (cap : Nat) (es : List (Int × Int)) (w : World) (he : EdgesAt w ao es) (hl : es.length ≤ 4611686018427387904) :
    Calls Try.prog 22 #[graphVal n ao es.length cap] w (OfPost n es w) := by
  have HE := Nu.hid he
  have hva := fun W (hb : Below w.heap.size w W) => valid_any n ao cap es W (he.later hb) hl
  unfold graphVal at hva ⊢
  have HVA := Nu.hid hva
  clear he hva
  have hbw0 : Below w.heap.size w (w.alloc (.cells #[.int .i64 n, .slice ao es.length cap] 24)) := (Below.refl _ _).alloc (Nat.le_refl _) _
  have HBW0 := Nu.hid hbw0
  clear hbw0
  cases hv : Si.valid n es with
  | false =>
    rw [hv] at HVA
    have HV := Nu.hid hv
    clear hv
    go_enter Try.func22, Try.ntmps22
    go_wp2_with (go_at_call 37; refine (HVA.out _ HBW0.out).mono ?_; rintro e w' ⟨rfl, hb⟩; refine Hid.out ?_)
    refine Nu.hid ?_
    have HB := Nu.hid (HBW0.out.trans (hb.mono HBW0.out.size))
    clear hb
    go_wp2
    go_ret3
    exact ⟨.inr ⟨HV.out, rfl⟩, HB.out⟩
  | true =>
    rw [hv] at HVA
    have hval := Si.valid_iff.1 hv
    have hfew := hval.few
    have hlo := hval.lo
    have hhi := hval.hi
    obtain ⟨m, rfl⟩ : ∃ m : Nat, n = (m : Int) := ⟨n.toNat, by omega⟩
    have HVAL := Nu.hid hval
    clear hval hv
    have HNEW := Nu.hid (fun W => new_any (m : Int) W)
    go_enter Try.func22, Try.ntmps22
    go_wp2_with (go_at_call 37; refine (HVA.out _ HBW0.out).mono ?_; rintro e w' ⟨rfl, hb⟩; refine Hid.out ?_)
    refine Nu.hid ?_
    have hG : w'.heap[w.heap.size]? = some (.cells #[.int .i64 m, .slice ao es.length cap] 24 (0, 0)) := (hb.block _ (by simp)).trans (heap_alloc_new w _)
    have HB := Nu.hid (HBW0.out.trans (hb.mono HBW0.out.size))
    have hsG := lt_of_block hG
    have HG := Nu.hid hG
    obtain ⟨g0, g1, -⟩ := pair_cells hG
    clear hb hG HVA
    have hnew := (HNEW.out w').mono (R' := fun e W => ∃ p gp gt : Nat, e = .returned (.tuple #[.pointer (some ⟨p, 0, none⟩), .int .i64 0]) ∧ (SetsOf W p gp gt m (fun x => x) ∧ w'.heap.size ≤ p ∧ w'.heap.size ≤ gp ∧ w'.heap.size ≤ gt) ∧ Below w'.heap.size w' W) (by
      rintro e W ⟨⟨k, p, gp, gt, h1, h2, h3, h4⟩ | ⟨h1, _⟩, hb⟩
      · obtain rfl : m = k := by omega
        exact ⟨p, gp, gt, h3, h4, hb⟩
      · omega)
    have HN := Nu.hid hnew
    clear hnew HNEW
    go_wp2_with (go_at_call 38; refine HN.out.mono ?_; rintro e w2 ⟨p, gp, gt, rfl, hs, hb2⟩; have HS2 := Nu.hid hs; have HB2 := Nu.hid hb2; clear hs hb2; refine Hid.out ?_)
    refine Nu.hid ?_
    obtain ⟨hs0, b1, b2, b3⟩ := HS2.out
    have k1 := (HB2.out.cell (p := ⟨w.heap.size, 1, none⟩) hsG).trans g1
    have HBW2 := Nu.hid (HB.out.trans (HB2.out.mono HB.out.size))
    have hsw := HB.out.size
    have HQ0 : Hid (SetsQ w2 (some (p, gp, gt)) m (fun x => x)) := hs0
    clear hs0 HN g0 g1 HS2
    go_wp2
    go_loopw [21] (fun c wr => ∃ k : Nat, k ≤ es.length ∧ c = .int .i64 (k : Int) ∧ SetsQ wr (some (p, gp, gt)) m (Co.ofG m (es.take k)) ∧ Below w.heap.size w wr) (fun c _ => es.length - (intOf c).toNat)
    case atStart => exact ⟨0, Nat.zero_le _, rfl, HQ0.out, HBW2.out⟩
    case round =>
      obtain ⟨k, hk, rfl, hQ, hb⟩ := hrel
      have HQ := Nu.hid hQ
      have HBR := Nu.hid hb
      by_cases hlt : k < es.length
      · have hlti : (k : Int) < (es.length : Int) := by omega
        have hk0 : (0 : Int) ≤ (k : Int) := by omega
        obtain ⟨q, hq⟩ : ∃ q, es[k]? = some q := ⟨_, List.getElem?_eq_getElem hlt⟩
        obtain ⟨b, o, rfl, c0, c1⟩ := (HE.out.later hb) k q hq
        have hbl : b < wr.heap.size := block_lt_of_cell c0
        have hb3 : Below w.heap.size w (wr.alloc (.cells #[.int .i64 q.1, .int .i64 q.2] 49)) := hb.alloc hb.size _
        have hj := join_any (some (p, gp, gt)) m (Co.ofG m (es.take k)) q.1 q.2 _ (hQ.later ((Below.refl _ _).alloc (Nat.le_refl _) (.cells #[.int .i64 q.1, .int .i64 q.2] 49)))
        have hend : ∀ e w3, JoinPost (some (p, gp, gt)) m (Co.ofG m (es.take k)) q.1 q.2 (wr.alloc (.cells #[.int .i64 q.1, .int .i64 q.2] 49)) e w3 → (∃ t, e = .returned (.bool t)) ∧ SetsQ w3 (some (p, gp, gt)) m (Co.ofG m (es.take (k + 1))) ∧ Below w.heap.size w w3 := by
          rintro e w3 ⟨h1, h2, h3⟩
          refine ⟨⟨_, h1⟩, ?_, hb3.trans (h3.below hb3.size ?_)⟩
          · rw [Si.take_snoc hq]
            unfold Co.ofG
            rw [Co.joins_snoc]
            exact h2
          · rintro x (rfl | rfl | rfl) <;> omega
        have HJ := Nu.hid (hj.mono hend)
        clear hj hend hQ hb hb3 hq
        unfold ptrQ at HJ
        go_wp2_with (go_at_call 39; refine HJ.out.mono ?_; rintro e w3 ⟨⟨t, rfl⟩, h2, h3⟩; have H2 := Nu.hid h2; have H3 := Nu.hid h3; clear h2 h3; refine Hid.out ?_)
        refine Nu.hid ?_
        go_wp2
        go_roundw
        case rel => exact ⟨k + 1, by omega, by go_num, H2.out, H3.out⟩
        case measure => simp [intOf]; omega
      · have hd : ¬ ((k : Int) < (es.length : Int)) := by omega
        rw [List.take_of_length_le (by omega)] at hQ
        have hnum := numbered_any _ m _ wr hQ.is
        have hcnt := fun W (hb : Below wr.heap.size wr W) => count_any _ m _ W (hQ.later hb).is
        unfold ptrQ at hnum hcnt
        have HNUM := Nu.hid hnum
        have HCNT := Nu.hid hcnt
        have hwr := hb.size
        clear hQ hb hnum hcnt HQ
        go_wp2_with (first | (go_at_call 40; refine HNUM.out.mono ?_; rintro e w4 ⟨v, rfl, h4, hb4⟩; have H4 := Nu.hid h4; have HB4 := Nu.hid hb4; clear h4 hb4) | (go_at_call 41; refine (HCNT.out _ HB4.out).mono ?_; rintro e w5 ⟨rfl, hw5⟩; obtain rfl := hw5.symm))
        go_ret3
        exact ⟨.inl ⟨m, v, rfl, HVAL.out, rfl, H4.out.lower hwr⟩, HBR.out.trans (HB4.out.mono hwr)⟩

end Go.Proofs.Ytalfpbalekbinaa
