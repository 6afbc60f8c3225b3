/-
  The program's Induced.
-/
import Derived.Test.YtdkckdbpbdhoaaaEdW1
import Derived.Test.YtdkckdbpbdhoaaaEdPl
import Derived.Test.YtdkckdbpbdhoaaaEdRn
namespace Go.Proofs.Ytdkckdbpbdhoaaa
open Go.RowKit Go.Sort

set_option maxRecDepth 100000 in
set_option maxHeartbeats 8000000 in
theorem einduced_any (n : Int) (lo : Option Addr) (q lc : Nat) (l : List Int) (ao : Option Addr) (cap : Nat) (es : List (Int × Int)) (w : World) (he : EdgesAt w ao es) (hl : es.length ≤ 4611686018427387904) (hq : l.length = q) (hat : IntsAt w lo l) (hlq : q ≤ 4611686018427387904) :
    Calls Try.prog 24 #[graphVal n ao es.length cap, .slice lo q lc] w (AnsP (Ed.induced n es l) w) := by
  have HE := Nu.hid he
  have hva := fun W (hb : Below w.heap.size w W) => valid_any n ao cap es W (he.later hb) hl
  have hB0 := Bx1.start (w := w) (n := n) (ao := ao) (cap := cap) (es := es)
  unfold graphVal at hva ⊢
  have HVA := Nu.hid hva
  have HB0 := Nu.hid hB0
  have HRF := Nu.hid refuse_any
  have HAT := Nu.hid hat
  have HQ := Nu.hid hq
  clear he hva hB0 hat hq
  cases hv : Si.valid n es with
  | false =>
    have hr : Ed.induced n es l = (0, [], 1) := by unfold Ed.induced; rw [if_pos hv]
    rw [hr]
    rw [hv] at HVA
    clear hv hr
    go_enter Try.func24, Try.ntmps24
    go_wp2_with (go_at_call 35; refine (HVA.out _ HB0.out.low).mono ?_; rintro e w1 ⟨rfl, hb⟩; refine Hid.out ?_)
    refine Nu.hid ?_
    have HB1 := Nu.hid (HB0.out.later hb)
    clear hb
    obtain ⟨g0, g1⟩ := HB1.out.cells
    have hs1 := HB1.out.size
    have hs0 : w.heap.size < w1.heap.size := by omega
    go_wp2_with (go_at_call 36; refine (HRF.out _ _).mono ?_; rintro e w2 ⟨rfl, hb⟩; have HB2 := Nu.hid (HB1.out.later hb); clear hb; obtain ⟨r0, r1⟩ := HB2.out.rcells; have f0 := HB2.out.free 0; have f1 := HB2.out.free 1)
    obtain ⟨hb, s0, s1⟩ := HB2.out.store (.int .i64 0) (.slice none 0 0)
    refine bodyPost_ret (v := .tuple #[.agg #[.int .i64 0, .slice none 0 0], .int .i64 1]) (by simp [results, Try.results24, go_sem, s0, s1]) rfl ?_
    exact ⟨_, rfl, OwnE.nil _ _, hb⟩
  | true =>
    have hval := Si.valid_iff.1 hv
    have hfew := hval.few
    have hlo := hval.lo
    have hhi := hval.hi
    have HVAL := Nu.hid hval
    have HV := Nu.hid hv
    rw [hv] at HVA
    clear hv hval
    obtain ⟨m, rfl⟩ : ∃ m : Nat, n = (m : Int) := ⟨n.toNat, by omega⟩
    have hpl := fun W (hb : Below w.heap.size w W) => places_any m lo q lc l W HQ.out (HAT.out.later hb) (by omega) hlq
    unfold PlacesPost at hpl
    have HPL := Nu.hid hpl
    clear hpl hhi hlo
    go_enter Try.func24, Try.ntmps24
    go_wp2_with (go_at_call 35; refine (HVA.out _ HB0.out.low).mono ?_; rintro e w1 ⟨rfl, hb⟩; refine Hid.out ?_)
    refine Nu.hid ?_
    have HB1 := Nu.hid (HB0.out.later hb)
    clear hb
    obtain ⟨g0, g1⟩ := HB1.out.cells
    have hs1 := HB1.out.size
    have hs0 : w.heap.size < w1.heap.size := by omega
    go_wp2_with (go_at_call 45; refine (HPL.out _ HB1.out.low).mono ?_; refine Hid.out ?_)
    refine Nu.hid ?_
    rintro e w2 ⟨hpp, hb⟩
    have HB1 := Nu.hid (HB1.out.later hb)
    clear hb g0 g1 hs1 hs0
    obtain ⟨g0, g1⟩ := HB1.out.cells
    have hs1 := HB1.out.size
    have hs0 : w.heap.size < w2.heap.size := by omega
    rcases hpp with ⟨hon, g, rfl, hib, hgg⟩ | ⟨hno, rfl⟩
    · have HON := Nu.hid hon
      have HIB := Nu.hid hib
      have hr : Ed.induced (m : Int) es l = ((q : Int), Ed.named (Ed.pl m l) es, 0) := by
        unfold Ed.induced
        rw [if_neg (by rw [HV.out]; simp), if_neg (fun h => h hon), HQ.out, Int.toNat_natCast]
      have HR := Nu.hid hr
      have hrn := rename_any (some ⟨g, 0, none⟩) m m (Ed.pl m l) ao cap es w2 (HE.out.later HB1.out.low) hfew (Ed.pl_length _ _) hib.at (Ed.val_fits HVAL.out (by rw [Ed.pl_length])) (Ed.pl_inj hon) (Si.sorted_nodup (Ed.sorted_of_val HVAL.out)) (fun x hx => by
        obtain ⟨i, hi, e⟩ := List.mem_iff_getElem.1 hx
        rcases Ed.pl_at hon (v := i) (x := x) (by rw [← e]; exact List.getElem?_eq_getElem hi) with ⟨h, _⟩ | ⟨j, h, _⟩ <;> omega)
      have HRN := Nu.hid hrn
      clear hrn hr hon hib hgg
      go_wp2_with (go_at_call 46; refine HRN.out.mono ?_; rintro e w3 ⟨v, rfl, hown, hb3⟩; have hown2 : OwnE w3 w.heap.size v (Ed.named (Ed.pl m l) es) := hown.lower (by omega); obtain ⟨va, vc, rfl, -, -, -, -⟩ := hown.form; have HB3 := Nu.hid (HB1.out.later hb3); obtain ⟨r0, r1⟩ := HB3.out.rcells; have f0 := HB3.out.free 0; have f1 := HB3.out.free 1; have HOWN := Nu.hid hown2; have HFAR := Nu.hid (hown.far (b := w.heap.size + 1) (by omega)); clear hown2 hown hb3)
      obtain ⟨hb, s0, s1⟩ := HB3.out.store (.int .i64 (q : Int)) (.slice va (Ed.named (Ed.pl m l) es).length vc)
      refine bodyPost_ret (v := .tuple #[.agg #[.int .i64 (q : Int), .slice va (Ed.named (Ed.pl m l) es).length vc], .int .i64 0]) (by simp [results, Try.results24, go_sem, s0, s1]) rfl ?_
      rw [HR.out]
      exact ⟨_, rfl, own_put2 HOWN.out HFAR.out _ _, hb⟩
    · have hr : Ed.induced (m : Int) es l = (0, [], 2) := by
        unfold Ed.induced
        rw [if_neg (by rw [HV.out]; simp), if_pos hno]
      have HR := Nu.hid hr
      clear hr hno
      go_wp2_with (go_at_call 36; refine (HRF.out _ _).mono ?_; rintro e wz ⟨rfl, hb⟩; have HB2 := Nu.hid (HB1.out.later hb); clear hb; obtain ⟨r0, r1⟩ := HB2.out.rcells; have f0 := HB2.out.free 0; have f1 := HB2.out.free 1)
      obtain ⟨hb, s0, s1⟩ := HB2.out.store (.int .i64 0) (.slice none 0 0)
      refine bodyPost_ret (v := .tuple #[.agg #[.int .i64 0, .slice none 0 0], .int .i64 2]) (by simp [results, Try.results24, go_sem, s0, s1]) rfl ?_
      rw [HR.out]
      exact ⟨_, rfl, OwnE.nil _ _, hb⟩

end Go.Proofs.Ytdkckdbpbdhoaaa
